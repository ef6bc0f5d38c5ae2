/- container/heap's up over the queue. No condition. -/
import Derived.Test.YtoganfdpaagomaaClockSwap
namespace Go.Proofs.Ytoganfdpaagomaa
open Go.ChangeShapes Go.WideShapes Go.ChangeAt Go.RowKit Cm
set_option linter.unusedVariables false

theorem nnLen (a : Addr) (w : World) : (nilAhead 223 47 (.pointer (some a)) "Len").run Try.prog w = .ok (some false) w := by kernel_rfl
theorem mmLen (a : Addr) (w : World) : (method 223 47 (.pointer (some a)) "Len").run Try.prog w = .ok (31, .pointer (some a)) w := by kernel_rfl
theorem nnLess (a : Addr) (w : World) : (nilAhead 223 47 (.pointer (some a)) "Less").run Try.prog w = .ok (some false) w := by kernel_rfl
theorem mmLess (a : Addr) (w : World) : (method 223 47 (.pointer (some a)) "Less").run Try.prog w = .ok (82, .pointer (some a)) w := by kernel_rfl
theorem nnSwap (a : Addr) (w : World) : (nilAhead 223 47 (.pointer (some a)) "Swap").run Try.prog w = .ok (some false) w := by kernel_rfl
theorem mmSwap (a : Addr) (w : World) : (method 223 47 (.pointer (some a)) "Swap").run Try.prog w = .ok (85, .pointer (some a)) w := by kernel_rfl
theorem nnPush (a : Addr) (w : World) : (nilAhead 223 47 (.pointer (some a)) "Push").run Try.prog w = .ok (some false) w := by kernel_rfl
theorem mmPush (a : Addr) (w : World) : (method 223 47 (.pointer (some a)) "Push").run Try.prog w = .ok (84, .pointer (some a)) w := by kernel_rfl
theorem nnPop (a : Addr) (w : World) : (nilAhead 223 47 (.pointer (some a)) "Pop").run Try.prog w = .ok (some false) w := by kernel_rfl
theorem mmPop (a : Addr) (w : World) : (method 223 47 (.pointer (some a)) "Pop").run Try.prog w = .ok (83, .pointer (some a)) w := by kernel_rfl
abbrev hif (L : Ql) : Value := .iface 47 (.pointer (some ⟨L.Q, 0, none⟩))
theorem par_int {k : Nat} (h : 0 < k) : ((k : Int) - 1).tdiv 2 = ((par k : Nat) : Int) := by
  have e : (k : Int) - 1 = ((k - 1 : Nat) : Int) := by omega
  rw [e]
  rfl
set_option maxRecDepth 100000 in
set_option maxHeartbeats 1000000 in
theorem up_any {w : World} {L : Ql} {l : List Tm} {n j : Nat} (h : Qu w L l (names l)) (hn : n ≤ l.length) (hj : j < n) (hu : UpOK l n j) :
    Calls Try.prog 58 #[hif L, .int .i64 j] w fun e w' => e = .returned (.tuple #[]) ∧ ∃ l', PI n l l' ∧ HeapN l' n ∧ QS w L l' (names l') w' := by
  have q1 := nnLess ⟨L.Q, 0, none⟩
  have q2 := mmLess ⟨L.Q, 0, none⟩
  have q3 := nnSwap ⟨L.Q, 0, none⟩
  have q4 := mmSwap ⟨L.Q, 0, none⟩
  have HN := hide hn
  have M0 := hide h.most
  have S0 : Hid (PI n l l ∧ UpOK l n j ∧ QS w L l (names l) w) := ⟨PI.refl _ _, hu, QS.stay h⟩
  clear h hn hu
  go_enter Try.func58, Try.ntmps58
  go_wp2_with fail
  go_loopw [1, 4] (fun jv _ wr => ∃ (k : Nat) (lk : List Tm), jv = .int .i64 k ∧ k < n ∧ Hid (PI n l lk ∧ UpOK lk n k ∧ QS w L lk (names lk) wr)) (fun jv _ _ => (intOf jv).toNat)
  case atStart => exact ⟨j, l, rfl, hj, S0⟩
  case round =>
    obtain ⟨k, lk, rfl, hk, SK⟩ := hrel
    have hlen : lk.length = l.length := SK.out.1.1
    have hm := M0.out.1
    have hn := HN.out
    rcases Nat.eq_zero_or_pos k with rfl | hk0
    · have FIN : Hid (∃ l', PI n l l' ∧ HeapN l' n ∧ QS w L l' (names l') wr) := ⟨lk, SK.out.1, up_done SK.out.2.1 (.inl rfl), SK.out.2.2⟩
      have e0 : IntKind.i64.wrap (-1) = -1 := by rw [IntKind.wrap_i64]; omega
      have e1 : Int.tdiv (-1) 2 = 0 := rfl
      clear hlen hm hn
      go_wp2_with fail
      refine bodyPost_end (results_none rfl _ _ _) rfl ?_
      exact ⟨rfl, FIN.out⟩
    · obtain ⟨p, ep⟩ : ∃ p, p = par k := ⟨_, rfl⟩
      have hp : p < k := by rw [ep]; simp only [par]; omega
      have e0 : IntKind.i64.wrap ((k : Int) - 1) = (k : Int) - 1 := by rw [IntKind.wrap_i64]; omega
      have e1 : ((k : Int) - 1).tdiv 2 = (p : Int) := by rw [par_int hk0, ep]
      have e2 : IntKind.i64.wrap (p : Int) = (p : Int) := by rw [IntKind.wrap_i64]; omega
      have e3 : ((p : Int) == (k : Int)) = false := by simp; omega
      have e4 : ((p : Int) = (k : Int)) = False := by simp; omega
      have CL := hide (less_any SK.out.2.2.2 (i := k) (j := p) (by omega) (by omega))
      cases hx : lt (g lk k) (g lk p) with
      | false =>
        rw [hx] at CL
        have UD := hide (up_done SK.out.2.1 (.inr (by rw [← ep]; exact hx)))
        clear hx hlen hm hn ep
        go_wp2_with fail
        refine CL.out.mono ?_
        rintro e w1 ⟨rfl, hb⟩
        have FIN : Hid (∃ l', PI n l l' ∧ HeapN l' n ∧ QS w L l' (names l') w1) := ⟨lk, SK.out.1, UD.out, SK.out.2.2.trans (QS.below SK.out.2.2.2 hb)⟩
        clear hb
        go_wp2_with fail
        refine bodyPost_end (results_none rfl _ _ _) rfl ?_
        exact ⟨rfl, FIN.out⟩
      | true =>
        rw [hx] at CL
        have US := hide (up_step (by omega) SK.out.2.1 hk hk0 (by rw [← ep]; exact hx))
        have LK := hide (show p < lk.length ∧ k < lk.length ∧ p ≠ k ∧ p < n ∧ n ≤ lk.length by omega)
        have EP := hide ep
        clear hx hlen hm hn ep
        go_wp2_with fail
        refine CL.out.mono ?_
        rintro e w1 ⟨rfl, hb⟩
        have Q1 := hide (SK.out.2.2.2.below hb)
        have B1 := hide (SK.out.2.2.trans (QS.below SK.out.2.2.2 hb))
        have CS := hide (swap_any Q1.out LK.out.1 LK.out.2.1 LK.out.2.2.1)
        clear hb
        go_wp2_with fail
        refine CS.out.mono ?_
        rintro e w2 ⟨rfl, hs⟩
        have NX : Hid (PI n l (swp lk p k) ∧ UpOK (swp lk p k) n p ∧ QS w L (swp lk p k) (names (swp lk p k)) w2) := ⟨SK.out.1.trans (PI.swp LK.out.2.2.2.2 LK.out.2.2.2.1 hk), by rw [EP.out]; exact US.out, B1.out.trans hs⟩
        have PN := hide LK.out.2.2.2.1
        clear hs
        go_wp2_with fail
        go_roundw
        case rel => exact ⟨p, swp lk p k, rfl, PN.out, NX⟩
        case measure => simp [intOf]; omega
end Go.Proofs.Ytoganfdpaagomaa
