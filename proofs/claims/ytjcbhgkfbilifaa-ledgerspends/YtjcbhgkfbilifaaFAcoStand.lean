/- The landed code: lockStands and Check. Condition: the account can be read. -/
import Derived.Test.YtjcbhgkfbilifaaFAcoSmall
namespace Go.Proofs.Ytjcbhgkfbilifaa
open Go.ChangeShapes Go.WideShapes Go.ChangeAt Go.RowKit Ao
set_option linter.unusedVariables false

set_option maxRecDepth 100000 in
set_option maxHeartbeats 1000000 in
theorem stands_any {A : Ac} {a : Option Addr} {n : Nat} (c : Nat) (w : World) (hw : AcW A) (hl : A.hs.length = n) (hn : n ≤ 9223372036854775807) : Calls Try.prog 117 #[acval A a n c] w fun e w' => e = .returned (.bool (lkB A)) ∧ Below w.heap.size w w' := by
  rw [lkB_eq hw]
  have ML := fun W => hide (mayLock_any A.lk W)
  have MM := fun W => hide (mayMove_any a n c (v := A.lk.n) W hw hw.lk.n)
  have HI : A.hs.isEmpty = decide ((n : Int) = 0) := by
    cases e : A.hs with
    | nil => rw [e] at hl; subst hl; rfl
    | cons x r => rw [e] at hl; subst hl; simp; omega
  rw [HI]
  have HA0 := hide (ab_new w A a n c)
  have EQ := fun W => lk_eql A.lk lk0 W
  clear HI hl hw
  generalize lockB A.lk = b1 at ML ⊢
  generalize moveB A A.lk.n = b2 at MM ⊢
  generalize decide (A.lk = lk0) = b0 at EQ ⊢
  unfold lval lk0 at EQ
  unfold lval at ML
  unfold acval at MM ⊢
  cases b0
  · go_enter Try.func117, Try.ntmps117
    go_wp2_with fail
    refine (ML _).out.mono ?_
    rintro e w1 ⟨rfl, hb⟩
    have HB : Hid (Below w.heap.size w w1) := (Below.alloc (Below.refl _ _) (Nat.le_refl _) _).trans (hb.mono (by simp))
    have HA := hide (HA0.out.below hb)
    clear hb
    obtain ⟨z0, z1, z2, z3, z4, z5, z6, z7, z8, z9⟩ := HA.out.at_
    have hs1 : w.heap.size < w1.heap.size := HA.out.lt
    cases b1
    · go_wp2_with fail
      go_returns
      exact ⟨rfl, HB.out⟩
    · by_cases h0 : (n : Int) = 0
      · obtain rfl : n = 0 := by omega
        go_wp2_with fail
        refine (MM _).out.mono ?_
        rintro e w2 ⟨rfl, hb⟩
        have HB2 : Hid (Below w.heap.size w w2) := HB.out.trans (hb.mono HB.out.size)
        clear hb z0 z1 z2 z3 z4 z5 z6 z7 z8 z9
        go_wp2_with fail
        go_returns
        exact ⟨by cases b2 <;> rfl, HB2.out⟩
      · go_wp2_with fail
        go_returns
        exact ⟨by rw [decide_eq_false h0]; rfl, HB.out⟩
  · go_enter Try.func117, Try.ntmps117
    go_wp2_with fail
    go_returns
    exact ⟨rfl, by go_grown⟩
def checkE (A : Ac) : Int := if rightB A = true then 0 else 21
set_option maxRecDepth 100000 in
set_option maxHeartbeats 1000000 in
theorem check_any {w : World} {a : Option Addr} {n c : Nat} {A : Ac} (h : Hs w a n A.hs) (hw : AcW A) : Calls Try.prog 57 #[acval A a n c] w fun e w' => e = .returned (.int .i64 (checkE A)) ∧ Below w.heap.size w w' := by
  have K := fun W => hide (key_any A.key W)
  have HH := fun W => hide (fun hW : Below w.heap.size w W => holders_any (c := c) (h.below hW))
  have hl := h.len
  have hrm := h.room
  have LS := fun W => hide (stands_any (a := a) c W hw hl (by omega))
  have ST := fun W => hide (fun (hW : Below w.heap.size w W) (hr : hsB 0 A.hs = true) => stays_any (c := c) (h.below hW) hw hr)
  have HE : Hid (checkE A = if keyB A.key = true then (if 0 ≤ A.rd then (if hsB 0 A.hs = true then (if stayB A = true then (if lkB A = true then 0 else 21) else 21) else 21) else 21) else 21) := by
    show _ = _
    unfold checkE
    rw [rightB_eq hw]
    cases keyB A.key
    · simp
    by_cases g : 0 ≤ A.rd
    · have g2 : ¬ A.rd < 0 := by omega
      rw [decide_eq_false g2, if_pos g]
      cases hsB 0 A.hs
      · simp
      cases stayB A
      · simp
      cases lkB A <;> simp
    · have g2 : A.rd < 0 := by omega
      rw [decide_eq_true g2, if_neg g]
      simp
  rw [HE.out]
  have HA0 := hide (ab_new w A a n c)
  clear HE h hw hl hrm
  generalize hsB 0 A.hs = b3 at HH ST ⊢
  generalize keyB A.key = b1 at K ⊢
  generalize stayB A = b4 at ST ⊢
  generalize lkB A = b5 at LS ⊢
  unfold acval at LS ST ⊢
  cases b1
  · go_enter Try.func57, Try.ntmps57
    go_wp2_with (go_at_call 114; refine (K _).out.mono ?_; rintro e w' ⟨rfl, hw⟩; rw [hw]; clear hw)
    go_returns
    exact ⟨rfl, by go_grown⟩
  by_cases hr : A.rd < 0
  · rw [if_pos rfl, if_neg (by omega)]
    go_enter Try.func57, Try.ntmps57
    go_wp2_with (go_at_call 114; refine (K _).out.mono ?_; rintro e w' ⟨rfl, hw⟩; rw [hw]; clear hw)
    go_returns
    exact ⟨rfl, by go_grown⟩
  rw [if_pos rfl, if_pos (by omega)]
  go_enter Try.func57, Try.ntmps57
  go_wp2_with (go_at_call 114; refine (K _).out.mono ?_; rintro e w' ⟨rfl, hw⟩; rw [hw]; clear hw)
  refine ((HH _).out (by go_grown)).mono ?_
  rintro e w1 ⟨rfl, hb⟩
  have HB : Hid (Below w.heap.size w w1) := (Below.alloc (Below.refl _ _) (Nat.le_refl _) _).trans (hb.mono (by simp))
  have HA := hide (HA0.out.below hb)
  clear hb
  obtain ⟨z0, z1, z2, z3, z4, z5, z6, z7, z8, z9⟩ := HA.out.at_
  have hs1 : w.heap.size < w1.heap.size := HA.out.lt
  cases b3
  · go_wp2_with fail
    go_returns
    exact ⟨rfl, HB.out⟩
  go_wp2_with fail
  refine ((ST _).out HB.out trivial).mono ?_
  rintro e w2 ⟨rfl, hb⟩
  have HB2 : Hid (Below w.heap.size w w2) := HB.out.trans (hb.mono HB.out.size)
  have HA2 := hide (HA.out.below hb)
  clear hb z0 z1 z2 z3 z4 z5 z6 z7 z8 z9
  obtain ⟨z0, z1, z2, z3, z4, z5, z6, z7, z8, z9⟩ := HA2.out.at_
  have hs2 : w.heap.size < w2.heap.size := HA2.out.lt
  cases b4
  · go_wp2_with fail
    go_returns
    exact ⟨rfl, HB2.out⟩
  go_wp2_with fail
  refine (LS _).out.mono ?_
  rintro e w3 ⟨rfl, hb⟩
  have HB3 : Hid (Below w.heap.size w w3) := HB2.out.trans (hb.mono HB2.out.size)
  clear hb z0 z1 z2 z3 z4 z5 z6 z7 z8 z9
  cases b5
  · go_wp2_with fail
    go_returns
    exact ⟨rfl, HB3.out⟩
  · go_wp2_with fail
    go_returns
    exact ⟨rfl, HB3.out⟩
end Go.Proofs.Ytjcbhgkfbilifaa
