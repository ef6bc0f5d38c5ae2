/- The landed code's tests of an account: staysWithin, mayLock, mayMove, lockStands, isLocked, isKnown, and Check. Condition: the account can be read. -/
import Derived.Test.YtjcbhgkfbilifaaFAcoReach
namespace Go.Proofs.Ytjcbhgkfbilifaa
open Go.ChangeShapes Go.WideShapes Go.ChangeAt Go.RowKit Ao
set_option linter.unusedVariables false

theorem ac_info : (Try.prog.info? 28).map (·.size) = some 10 := by kernel_rfl
def lockedB (A : Ac) : Bool := !decide (A.lk.c = 0)
def knownB (A : Ac) : Bool := A.hs.isEmpty && !lockedB A
def moveB (A : Ac) (n : Int) : Bool := decide (I64 (A.base + n)) && hasB A.lo A.hi (A.base + n)
def stayB (A : Ac) : Bool := reachB A && hasB A.lo A.hi (A.base - downs A.hs) && hasB A.lo A.hi (A.base + ups A.hs)
theorem locked_any (A : Ac) (a : Option Addr) (n c : Nat) (w : World) : Calls Try.prog 94 #[acval A a n c] w fun e w' => e = .returned (.bool (lockedB A)) ∧ Below w.heap.size w w' := by
  unfold acval lockedB
  by_cases h : A.lk.c = 0
  · rw [decide_eq_true h]
    go_enter Try.func94, Try.ntmps94
    go_wp2_with fail
    go_returns
    exact ⟨by simp [h], by go_grown⟩
  · rw [decide_eq_false h]
    go_enter Try.func94, Try.ntmps94
    go_wp2_with fail
    go_returns
    exact ⟨by simp [h], by go_grown⟩
set_option maxRecDepth 100000 in
theorem known_any {A : Ac} {a : Option Addr} {n : Nat} (c : Nat) (w : World) (hl : A.hs.length = n) (hn : n ≤ 9223372036854775807) : Calls Try.prog 102 #[acval A a n c] w fun e w' => e = .returned (.bool (knownB A)) ∧ Below w.heap.size w w' := by
  have L := fun W => hide (locked_any A a n c W)
  have HK : Hid (knownB A = (decide ((n : Int) = 0) && !lockedB A)) := by
    show _ = _
    unfold knownB
    congr 1
    cases e : A.hs with
    | nil => rw [e] at hl; subst hl; rfl
    | cons x r => rw [e] at hl; subst hl; simp; omega
  rw [HK.out]
  clear HK hl
  generalize lockedB A = b at L
  unfold acval at L ⊢
  by_cases h0 : (n : Int) = 0
  · rw [decide_eq_true h0]
    obtain rfl : n = 0 := by omega
    go_enter Try.func102, Try.ntmps102
    go_wp2_with fail
    refine (L _).out.mono ?_
    rintro e w1 ⟨rfl, hb⟩
    have HB := hide hb
    clear hb
    go_wp2_with fail
    go_returns
    refine ⟨by cases b <;> rfl, ?_⟩
    exact (Below.alloc (Below.refl _ _) (Nat.le_refl _) _).trans (HB.out.mono (by simp))
  · rw [decide_eq_false h0]
    go_enter Try.func102, Try.ntmps102
    go_wp2_with fail
    go_returns
    exact ⟨rfl, by go_grown⟩
theorem lockB_def (l : Lk) : lockB l = decide (1 ≤ l.c ∧ 1 ≤ l.s ∧ 1 ≤ l.h ∧ l.h < 8) := rfl
set_option maxRecDepth 100000 in
theorem mayLock_any (l : Lk) (w : World) : Calls Try.prog 104 #[lval l] w fun e w' => e = .returned (.bool (lockB l)) ∧ Below w.heap.size w w' := by
  rw [lockB_def]
  unfold lval
  by_cases h1 : 1 ≤ l.c
  · by_cases h2 : 1 ≤ l.s
    · by_cases h3 : 1 ≤ l.h
      · go_enter Try.func104, Try.ntmps104
        go_wp2_with fail
        all_goals
          go_returns
          exact ⟨by simp [h1, h2, h3] <;> omega, by go_grown⟩
      · go_enter Try.func104, Try.ntmps104
        go_wp2_with fail
        go_returns
        exact ⟨by simp <;> omega, by go_grown⟩
    · go_enter Try.func104, Try.ntmps104
      go_wp2_with fail
      go_returns
      exact ⟨by simp <;> omega, by go_grown⟩
  · go_enter Try.func104, Try.ntmps104
    go_wp2_with fail
    go_returns
    exact ⟨by simp <;> omega, by go_grown⟩
set_option maxRecDepth 100000 in
theorem mayMove_any {A : Ac} (a : Option Addr) (n c : Nat) {v : Int} (w : World) (hw : AcW A) (hv : I64 v) : Calls Try.prog 105 #[acval A a n c, .int .i64 v] w fun e w' => e = .returned (.bool (moveB A v)) ∧ Below w.heap.size w w' := by
  have HW := hide hw.base
  have HV := hide hv
  unfold moveB acval
  by_cases h : I64 (A.base + v)
  · rw [decide_eq_true h, Bool.true_and]
    have C1 := fun W => hide (add_yes A.base v W HW.out.1 HW.out.2 HV.out.1 HV.out.2 h.1 h.2)
    have C2 := fun W => hide (has_any A.lo A.hi (A.base + v) W)
    generalize hasB A.lo A.hi (A.base + v) = b at C2
    clear h hw hv
    go_enter Try.func105, Try.ntmps105
    go_wp2_with (first | (go_at_call 68; refine (C1 _).out.mono ?_; rintro e w' ⟨rfl, hw⟩; rw [hw]; clear hw) | (go_at_call 103; refine (C2 _).out.mono ?_; rintro e w' ⟨rfl, hw⟩; rw [hw]; clear hw))
    go_returns
    exact ⟨by cases b <;> rfl, by go_grown⟩
  · have h2 : 9223372036854775807 < A.base + v ∨ A.base + v < -9223372036854775808 := by unfold I64 at h; omega
    rw [decide_eq_false h, Bool.false_and]
    have C1 := fun W => hide (add_no A.base v W HW.out.1 HW.out.2 HV.out.1 HV.out.2 h2)
    clear h h2 hw hv
    go_enter Try.func105, Try.ntmps105
    go_wp2_with (first | (go_at_call 68; refine (C1 _).out.mono ?_; rintro e w' ⟨rfl, hw⟩; rw [hw]; clear hw))
    go_returns
    exact ⟨rfl, by go_grown⟩
set_option maxRecDepth 100000 in
set_option maxHeartbeats 1000000 in
theorem stays_any {w : World} {a : Option Addr} {n c : Nat} {A : Ac} (h : Hs w a n A.hs) (hw : AcW A) (hr : hsB 0 A.hs = true) : Calls Try.prog 116 #[acval A a n c] w fun e w' => e = .returned (.bool (stayB A)) ∧ Below w.heap.size w w' := by
  have R := fun W => hide (fun hW : Below w.heap.size w W => reach_any (c := c) (h.below hW) hw hr)
  have C1 := fun W => hide (has_any A.lo A.hi (reachL A) W)
  have C2 := fun W => hide (has_any A.lo A.hi (reachH A) W)
  have HE : Hid (stayB A = (reachB A && hasB A.lo A.hi (reachL A) && hasB A.lo A.hi (reachH A))) := by
    show _ = _
    unfold stayB reachL reachH
    cases e : reachB A <;> simp
  rw [HE.out]
  clear HE h hw hr
  generalize reachB A = rb at *
  generalize hasB A.lo A.hi (reachL A) = b1 at *
  generalize hasB A.lo A.hi (reachH A) = b2 at *
  generalize reachL A = rl at *
  generalize reachH A = rh at *
  unfold acval at *
  cases rb
  · go_enter Try.func116, Try.ntmps116
    go_wp2_with fail
    refine ((R _).out (by go_grown)).mono ?_
    rintro e w1 ⟨rfl, hb⟩
    have HB : Hid (Below w.heap.size w w1) := (Below.alloc (Below.refl _ _) (Nat.le_refl _) _).trans (hb.mono (by simp))
    clear hb
    go_wp2_with fail
    go_returns
    exact ⟨rfl, HB.out.alloc HB.out.size _⟩
  · go_enter Try.func116, Try.ntmps116
    have HA0 := hide (ab_new w A a n c)
    go_wp2_with fail
    refine ((R _).out (by go_grown)).mono ?_
    rintro e w1 ⟨rfl, hb⟩
    have HB : Hid (Below w.heap.size w w1) := (Below.alloc (Below.refl _ _) (Nat.le_refl _) _).trans (hb.mono (by simp))
    obtain ⟨z0, z1, z2, z3, z4, z5, z6, z7, z8, z9⟩ := (HA0.out.below hb).at_
    have hs1 : w.heap.size < w1.heap.size := (HA0.out.below hb).lt
    clear hb
    cases b1
    · go_wp2_with (go_at_call 103; refine (C1 _).out.mono ?_; rintro e w' ⟨rfl, hw⟩; rw [hw]; clear hw)
      go_returns
      exact ⟨rfl, (HB.out.alloc HB.out.size _).alloc (HB.out.alloc HB.out.size _).size _⟩
    · go_wp2_with (go_at_call 103; first | (refine (C1 _).out.mono ?_; rintro e w' ⟨rfl, hw⟩; rw [hw]; clear hw C1) | (refine (C2 _).out.mono ?_; rintro e w' ⟨rfl, hw⟩; rw [hw]; clear hw C2))
      go_returns
      refine ⟨by cases b2 <;> rfl, ?_⟩
      exact ((HB.out.alloc HB.out.size _).alloc (HB.out.alloc HB.out.size _).size _).alloc ((HB.out.alloc HB.out.size _).alloc (HB.out.alloc HB.out.size _).size _).size _
set_option maxRecDepth 100000 in
theorem lk_eql (x y : Lk) (w : World) : (binOp .eql 26 (lval x) (lval y)).run Try.prog w = .ok (.bool (decide (x = y))) w := by
  obtain ⟨xc, xs, xh, xn⟩ := x
  obtain ⟨yc, ys, yh, yn⟩ := y
  unfold lval
  go_simp
  (repeat' split) <;> simp_all
theorem lkB_eq {A : Ac} (hw : AcW A) : lkB A = (decide (A.lk = lk0) || (lockB A.lk && A.hs.isEmpty && moveB A A.lk.n)) := by
  unfold lkB
  by_cases h0 : A.lk.c = 0
  · rw [if_pos h0]
    by_cases e : A.lk = lk0
    · rw [decide_eq_true e, Bool.true_or]
    · rw [decide_eq_false e, Bool.false_or]
      have : lockB A.lk = false := by rw [lockB_def, decide_eq_false]; omega
      rw [this]; rfl
  · rw [if_neg h0]
    have e : ¬ A.lk = lk0 := fun e => h0 (by rw [e]; rfl)
    rw [decide_eq_false e, Bool.false_or]
    congr 1
    unfold moveB hasB
    have h1 := hw.lo
    have h2 := hw.hi
    by_cases g : A.lo ≤ A.base + A.lk.n ∧ A.base + A.lk.n ≤ A.hi
    · rw [decide_eq_true g, decide_eq_true (show I64 (A.base + A.lk.n) by unfold I64 at *; omega)]; rfl
    · rw [decide_eq_false g, Bool.and_false]
theorem rightB_eq {A : Ac} (hw : AcW A) : rightB A = (keyB A.key && !decide (A.rd < 0) && hsB 0 A.hs && stayB A && lkB A) := by
  unfold rightB
  cases hk : keyB A.key
  · simp
  cases hh : hsB 0 A.hs
  · simp
  cases hl : lkB A
  · simp
  have hu := ups_nonneg hh
  have h1 := hw.lo
  have h2 := hw.hi
  unfold stayB reachB hasB
  rw [Bool.eq_iff_iff]
  simp
  unfold I64 at *
  omega
end Go.Proofs.Ytjcbhgkfbilifaa
