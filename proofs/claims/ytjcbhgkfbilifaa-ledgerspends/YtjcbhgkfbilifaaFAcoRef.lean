/- The document's New and Total. Condition: the account can be read. -/
import Derived.Test.YtjcbhgkfbilifaaFAcoRight
import Derived.Laws.Tables
namespace Go.Proofs.Ytjcbhgkfbilifaa
open Go.ChangeShapes Go.WideShapes Go.ChangeAt Go.RowKit Ao
set_option linter.unusedVariables false

set_option maxRecDepth 100000 in
set_option maxHeartbeats 2000000 in
theorem rtotal_any {w : World} {a : Option Addr} {n c : Nat} {A : Ac} (h : Hs w a n A.hs) (hw : AcW A) : Calls Try.prog 112 #[.agg #[.string A.key, .int .i64 A.lo, .int .i64 A.hi, .int .i64 A.base, .int .i64 A.rd, .slice a n c, .int .i64 A.lk.c, .int .i64 A.lk.s, .int .i64 A.lk.h, .int .i64 A.lk.n]] w fun e w' => e = .returned (.tuple #[.int .i64 (totalV A), .bool (totalB A)]) ∧ Below w.heap.size w w' := by
  have RR := fun W => hide (fun hW : Below w.heap.size w W => rright_any (c := c) (h.below hW) hw)
  have hl := h.len
  have HE : Hid (totalB A = (rightB A && decide (n = 0) && decide (A.lk.c = 0))) := by
    show _ = _
    unfold totalB
    congr 2
    cases e : A.hs with
    | nil => rw [e] at hl; subst hl; rfl
    | cons x r => rw [e] at hl; subst hl; simp
  unfold totalV
  rw [HE.out]
  clear h hw hl HE
  generalize rightB A = b1 at RR ⊢
  cases b1
  · go_enter Try.func112, Try.ntmps112
    go_wp2_with fail
    obtain ⟨w1, ew, hb1, ha1⟩ := one_new w A a n c
    rw [← ew]
    have HB1 := hide hb1
    have HA1 := hide ha1
    clear hb1 ha1 ew
    obtain ⟨z0, z1, z2, z3, z4, z5, z6, z7, z8, z9⟩ := HA1.out.at_
    have hs1 : w.heap.size < w1.heap.size := HA1.out.lt
    refine ((RR _).out HB1.out).mono ?_
    rintro e w2 ⟨rfl, hb⟩
    have HB2 : Hid (Below w.heap.size w w2) := HB1.out.trans (hb.mono HB1.out.size)
    have HA2 := hide (HA1.out.below hb)
    clear hb
    clear z0 z1 z2 z3 z4 z5 z6 z7 z8 z9
    obtain ⟨z0, z1, z2, z3, z4, z5, z6, z7, z8, z9⟩ := HA2.out.at_
    have hs2 : w.heap.size < w2.heap.size := HA2.out.lt
    go_wp2_with fail
    go_returns
    exact ⟨rfl, HB2.out⟩
  · by_cases h0 : n = 0
    · subst h0
      by_cases hc : A.lk.c = 0
      · rw [decide_eq_true hc]
        obtain ⟨ak, alo, ahi, ab, ard, ahs, lc, ls, lh, ln⟩ := A
        obtain rfl : lc = 0 := hc
        go_enter Try.func112, Try.ntmps112
        go_wp2_with fail
        obtain ⟨w1, ew, hb1, ha1⟩ := one_new w ⟨ak, alo, ahi, ab, ard, ahs, 0, ls, lh, ln⟩ a 0 c
        rw [← ew]
        have HB1 := hide hb1
        have HA1 := hide ha1
        clear hb1 ha1 ew
        obtain ⟨z0, z1, z2, z3, z4, z5, z6, z7, z8, z9⟩ := HA1.out.at_
        have hs1 : w.heap.size < w1.heap.size := HA1.out.lt
        refine ((RR _).out HB1.out).mono ?_
        rintro e w2 ⟨rfl, hb⟩
        have HB2 : Hid (Below w.heap.size w w2) := HB1.out.trans (hb.mono HB1.out.size)
        have HA2 := hide (HA1.out.below hb)
        clear hb
        clear z0 z1 z2 z3 z4 z5 z6 z7 z8 z9
        obtain ⟨z0, z1, z2, z3, z4, z5, z6, z7, z8, z9⟩ := HA2.out.at_
        have hs2 : w.heap.size < w2.heap.size := HA2.out.lt
        go_wp2_with fail
        go_returns
        exact ⟨by first | rfl | simp, HB2.out⟩
      · rw [decide_eq_false hc]
        have hc2 : (A.lk.c == 0) = false := by simpa using hc
        go_enter Try.func112, Try.ntmps112
        go_wp2_with fail
        obtain ⟨w1, ew, hb1, ha1⟩ := one_new w A a 0 c
        rw [← ew]
        have HB1 := hide hb1
        have HA1 := hide ha1
        clear hb1 ha1 ew
        obtain ⟨z0, z1, z2, z3, z4, z5, z6, z7, z8, z9⟩ := HA1.out.at_
        have hs1 : w.heap.size < w1.heap.size := HA1.out.lt
        refine ((RR _).out HB1.out).mono ?_
        rintro e w2 ⟨rfl, hb⟩
        have HB2 : Hid (Below w.heap.size w w2) := HB1.out.trans (hb.mono HB1.out.size)
        have HA2 := hide (HA1.out.below hb)
        clear hb
        clear z0 z1 z2 z3 z4 z5 z6 z7 z8 z9
        obtain ⟨z0, z1, z2, z3, z4, z5, z6, z7, z8, z9⟩ := HA2.out.at_
        have hs2 : w.heap.size < w2.heap.size := HA2.out.lt
        go_wp2_with fail
        go_returns
        exact ⟨by first | rfl | simp, HB2.out⟩
    · rw [decide_eq_false h0]
      have h1 : (0 : Int) < (n : Int) := by omega
      go_enter Try.func112, Try.ntmps112
      go_wp2_with fail
      obtain ⟨w1, ew, hb1, ha1⟩ := one_new w A a n c
      rw [← ew]
      have HB1 := hide hb1
      have HA1 := hide ha1
      clear hb1 ha1 ew
      obtain ⟨z0, z1, z2, z3, z4, z5, z6, z7, z8, z9⟩ := HA1.out.at_
      have hs1 : w.heap.size < w1.heap.size := HA1.out.lt
      refine ((RR _).out HB1.out).mono ?_
      rintro e w2 ⟨rfl, hb⟩
      have HB2 : Hid (Below w.heap.size w w2) := HB1.out.trans (hb.mono HB1.out.size)
      have HA2 := hide (HA1.out.below hb)
      clear hb
      clear z0 z1 z2 z3 z4 z5 z6 z7 z8 z9
      obtain ⟨z0, z1, z2, z3, z4, z5, z6, z7, z8, z9⟩ := HA2.out.at_
      have hs2 : w.heap.size < w2.heap.size := HA2.out.lt
      go_wp2_with fail
      go_returns
      exact ⟨by first | rfl | simp, HB2.out⟩
end Go.Proofs.Ytjcbhgkfbilifaa
