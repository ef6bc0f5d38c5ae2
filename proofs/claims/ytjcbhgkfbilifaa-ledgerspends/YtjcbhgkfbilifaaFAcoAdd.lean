/- What Add answers: the landed code. Condition: the account can be read. -/
import Derived.Test.YtjcbhgkfbilifaaFAcoMade
import Derived.Laws.Tables
namespace Go.Proofs.Ytjcbhgkfbilifaa
open Go.ChangeShapes Go.WideShapes Go.ChangeAt Go.RowKit Ao
set_option linter.unusedVariables false

set_option maxRecDepth 100000 in
set_option maxHeartbeats 2000000 in
theorem add_any {w : World} {a : Option Addr} {n c : Nat} {A : Ac} {v : Int} (h : Hs w a n A.hs) (hw : AcW A) (hv : I64 v) : Calls Try.prog 46 #[acval A a n c, .int .i64 v] w fun e w' => Mad w (addA A v) (addE A v) e w' := by
  have H := hide h
  have CK := fun W => hide (fun hW : Below w.heap.size w W => check_any (c := c) (h.below hW) hw)
  have LC := fun W => hide (locked_any A a n c W)
  have RM := fun W => hide (fun hW : Below w.heap.size w W => room_any (c := c) (h.below hW) hw)
  by_cases hr : rightB A = true
  · have e4 : checkE A = 0 := by unfold checkE; rw [if_pos hr]
    rw [e4] at CK
    clear e4
    by_cases hn : v = 0
    · subst hn
      have eE : addE A 0 = 1 := by unfold addE; rw [if_pos hr, if_pos rfl]
      have eA : addA A 0 = ac0 := by unfold addA; rw [eE]; rfl
      rw [eE, eA]
      clear eE eA
      clear hr h hw hv RM LC
      unfold acval at *
      go_enter Try.func46, Try.ntmps46
      go_wp2_with fail
      obtain ⟨w1, ew, hb1, ha1, hz1⟩ := two_new w A a n c
      rw [← ew]
      have HB1 := hide hb1
      have HA1 := hide ha1
      have HZ1 := hide hz1
      clear hb1 ha1 hz1 ew
      obtain ⟨z0, z1, z2, z3, z4, z5, z6, z7, z8, z9⟩ := HA1.out.at_
      have hs1 : w.heap.size < w1.heap.size := HA1.out.lt
      have HZ1' : Hid (Zr w1 (w.heap.size + 1)) := HZ1.out.zr
      clear HZ1
      have HZ1 := HZ1'
      clear HZ1'
      refine ((CK _).out HB1.out).mono ?_
      rintro e w2 ⟨rfl, hb⟩
      have HB2 : Hid (Below w.heap.size w w2) := HB1.out.trans (hb.mono HB1.out.size)
      have HA2 := hide (HA1.out.below hb)
      have HZ2 := hide (HZ1.out.below hb)
      clear hb z0 z1 z2 z3 z4 z5 z6 z7 z8 z9
      obtain ⟨z0, z1, z2, z3, z4, z5, z6, z7, z8, z9⟩ := HA2.out.at_
      have hs2 : w.heap.size < w2.heap.size := HA2.out.lt
      have zf2 := HA2.out.fz
      go_wp2_with (refine wpList_store_row rfl 28 (.tmp 4) (.tmp 16) rfl (w.heap.size + 1) #[.string ⟨#[]⟩, .int .i64 0, .int .i64 0, .int .i64 0, .int .i64 0, .slice none 0 0, .int .i64 0, .int .i64 0, .int .i64 0, .int .i64 0] rfl rfl 28 #[.string ⟨#[]⟩, .int .i64 0, .int .i64 0, .int .i64 0, .int .i64 0, .slice none 0 0, .int .i64 0, .int .i64 0, .int .i64 0, .int .i64 0] HZ2.out ac_info rfl (by simp [Value.oneCell']) ?_)
      refine bodyPost_ret (v := .tuple #[.agg #[.string ⟨#[]⟩, .int .i64 0, .int .i64 0, .int .i64 0, .int .i64 0, .slice none 0 0, .int .i64 0, .int .i64 0, .int .i64 0, .int .i64 0], .int .i64 1]) ?r ?d ?_
      case r => exact results_cell_tmp' rfl _ _ (w.heap.size + 1) 28 #[.string ⟨#[]⟩, .int .i64 0, .int .i64 0, .int .i64 0, .int .i64 0, .slice none 0 0, .int .i64 0, .int .i64 0, .int .i64 0, .int .i64 0] (0, 0) _ (.int .i64 1) rfl rfl (setRow_heap _ _ _ _ _ _ HZ2.out) Try.underlying28 rfl ac_info
      case d => rfl
      exact mad_none 1 (below_setRow HB2.out (by omega) _)
    by_cases hl : A.lk.c = 0
    · have e3 : lockedB A = false := by unfold lockedB; rw [hl]; rfl
      rw [e3] at LC
      clear e3
      by_cases hg : (0 < v ∧ upR A < v) ∨ (v < 0 ∧ downR A < -v)
      · have hc1 := room_nonneg A
        have eE : addE A v = 150 := by unfold addE; rw [if_pos hr, if_neg hn, if_pos hl, if_pos hg]
        have eA : addA A v = ac0 := by unfold addA; rw [eE]; rfl
        rw [eE, eA]
        clear eE eA
        generalize upR A = u at *
        generalize downR A = d at *
        clear hr h hw hl
        unfold acval at *
        by_cases hs0 : 0 < v
        · have k1 : IntKind.u64.wrap v = v := by rw [wrapU]; unfold I64 at hv; omega
          have k2 : u < v := by omega
          clear hg hn hv
          go_enter Try.func46, Try.ntmps46
          go_wp2_with fail
          obtain ⟨w1, ew, hb1, ha1, hz1⟩ := two_new w A a n c
          rw [← ew]
          have HB1 := hide hb1
          have HA1 := hide ha1
          have HZ1 := hide hz1
          clear hb1 ha1 hz1 ew
          obtain ⟨z0, z1, z2, z3, z4, z5, z6, z7, z8, z9⟩ := HA1.out.at_
          have hs1 : w.heap.size < w1.heap.size := HA1.out.lt
          have HZ1' : Hid (Zr w1 (w.heap.size + 1)) := HZ1.out.zr
          clear HZ1
          have HZ1 := HZ1'
          clear HZ1'
          refine ((CK _).out HB1.out).mono ?_
          rintro e w2 ⟨rfl, hb⟩
          have HB2 : Hid (Below w.heap.size w w2) := HB1.out.trans (hb.mono HB1.out.size)
          have HA2 := hide (HA1.out.below hb)
          have HZ2 := hide (HZ1.out.below hb)
          clear hb z0 z1 z2 z3 z4 z5 z6 z7 z8 z9
          obtain ⟨z0, z1, z2, z3, z4, z5, z6, z7, z8, z9⟩ := HA2.out.at_
          have hs2 : w.heap.size < w2.heap.size := HA2.out.lt
          have zf2 := HA2.out.fz
          go_wp2_with fail
          refine ((LC _).out).mono ?_
          rintro e w3 ⟨rfl, hb⟩
          have HB3 : Hid (Below w.heap.size w w3) := HB2.out.trans (hb.mono HB2.out.size)
          have HA3 := hide (HA2.out.below hb)
          have HZ3 := hide (HZ2.out.below hb)
          clear hb z0 z1 z2 z3 z4 z5 z6 z7 z8 z9
          obtain ⟨z0, z1, z2, z3, z4, z5, z6, z7, z8, z9⟩ := HA3.out.at_
          have hs3 : w.heap.size < w3.heap.size := HA3.out.lt
          have zf3 := HA3.out.fz
          go_wp2_with fail
          refine ((RM _).out HB3.out).mono ?_
          rintro e w4 ⟨rfl, hb⟩
          have HB4 : Hid (Below w.heap.size w w4) := HB3.out.trans (hb.mono HB3.out.size)
          have HA4 := hide (HA3.out.below hb)
          have HZ4 := hide (HZ3.out.below hb)
          clear hb z0 z1 z2 z3 z4 z5 z6 z7 z8 z9
          obtain ⟨z0, z1, z2, z3, z4, z5, z6, z7, z8, z9⟩ := HA4.out.at_
          have hs4 : w.heap.size < w4.heap.size := HA4.out.lt
          have zf4 := HA4.out.fz
          go_wp2_with (refine wpList_store_row rfl 28 (.tmp 4) (.tmp 45) rfl (w.heap.size + 1) #[.string ⟨#[]⟩, .int .i64 0, .int .i64 0, .int .i64 0, .int .i64 0, .slice none 0 0, .int .i64 0, .int .i64 0, .int .i64 0, .int .i64 0] rfl rfl 28 #[.string ⟨#[]⟩, .int .i64 0, .int .i64 0, .int .i64 0, .int .i64 0, .slice none 0 0, .int .i64 0, .int .i64 0, .int .i64 0, .int .i64 0] HZ4.out ac_info rfl (by simp [Value.oneCell']) ?_)
          refine bodyPost_ret (v := .tuple #[.agg #[.string ⟨#[]⟩, .int .i64 0, .int .i64 0, .int .i64 0, .int .i64 0, .slice none 0 0, .int .i64 0, .int .i64 0, .int .i64 0, .int .i64 0], .int .i64 150]) ?r ?d ?_
          case r => exact results_cell_tmp' rfl _ _ (w.heap.size + 1) 28 #[.string ⟨#[]⟩, .int .i64 0, .int .i64 0, .int .i64 0, .int .i64 0, .slice none 0 0, .int .i64 0, .int .i64 0, .int .i64 0, .int .i64 0] (0, 0) _ (.int .i64 150) rfl rfl (setRow_heap _ _ _ _ _ _ HZ4.out) Try.underlying28 rfl ac_info
          case d => rfl
          exact mad_none 150 (below_setRow HB4.out (by omega) _)
        · have k1 : IntKind.u64.wrap v = v + 18446744073709551616 := by rw [wrapU]; unfold I64 at hv; omega
          have k2 : d < -v := by omega
          have k3 : v < 0 := by omega
          have k4 : IntKind.u64.wrap (-(v + 18446744073709551616)) = -v := by rw [wrapU]; unfold I64 at hv; omega
          clear hg hn hv
          go_enter Try.func46, Try.ntmps46
          go_wp2_with fail
          obtain ⟨w1, ew, hb1, ha1, hz1⟩ := two_new w A a n c
          rw [← ew]
          have HB1 := hide hb1
          have HA1 := hide ha1
          have HZ1 := hide hz1
          clear hb1 ha1 hz1 ew
          obtain ⟨z0, z1, z2, z3, z4, z5, z6, z7, z8, z9⟩ := HA1.out.at_
          have hs1 : w.heap.size < w1.heap.size := HA1.out.lt
          have HZ1' : Hid (Zr w1 (w.heap.size + 1)) := HZ1.out.zr
          clear HZ1
          have HZ1 := HZ1'
          clear HZ1'
          refine ((CK _).out HB1.out).mono ?_
          rintro e w2 ⟨rfl, hb⟩
          have HB2 : Hid (Below w.heap.size w w2) := HB1.out.trans (hb.mono HB1.out.size)
          have HA2 := hide (HA1.out.below hb)
          have HZ2 := hide (HZ1.out.below hb)
          clear hb z0 z1 z2 z3 z4 z5 z6 z7 z8 z9
          obtain ⟨z0, z1, z2, z3, z4, z5, z6, z7, z8, z9⟩ := HA2.out.at_
          have hs2 : w.heap.size < w2.heap.size := HA2.out.lt
          have zf2 := HA2.out.fz
          go_wp2_with fail
          refine ((LC _).out).mono ?_
          rintro e w3 ⟨rfl, hb⟩
          have HB3 : Hid (Below w.heap.size w w3) := HB2.out.trans (hb.mono HB2.out.size)
          have HA3 := hide (HA2.out.below hb)
          have HZ3 := hide (HZ2.out.below hb)
          clear hb z0 z1 z2 z3 z4 z5 z6 z7 z8 z9
          obtain ⟨z0, z1, z2, z3, z4, z5, z6, z7, z8, z9⟩ := HA3.out.at_
          have hs3 : w.heap.size < w3.heap.size := HA3.out.lt
          have zf3 := HA3.out.fz
          go_wp2_with fail
          refine ((RM _).out HB3.out).mono ?_
          rintro e w4 ⟨rfl, hb⟩
          have HB4 : Hid (Below w.heap.size w w4) := HB3.out.trans (hb.mono HB3.out.size)
          have HA4 := hide (HA3.out.below hb)
          have HZ4 := hide (HZ3.out.below hb)
          clear hb z0 z1 z2 z3 z4 z5 z6 z7 z8 z9
          obtain ⟨z0, z1, z2, z3, z4, z5, z6, z7, z8, z9⟩ := HA4.out.at_
          have hs4 : w.heap.size < w4.heap.size := HA4.out.lt
          have zf4 := HA4.out.fz
          go_wp2_with (refine wpList_store_row rfl 28 (.tmp 4) (.tmp 45) rfl (w.heap.size + 1) #[.string ⟨#[]⟩, .int .i64 0, .int .i64 0, .int .i64 0, .int .i64 0, .slice none 0 0, .int .i64 0, .int .i64 0, .int .i64 0, .int .i64 0] rfl rfl 28 #[.string ⟨#[]⟩, .int .i64 0, .int .i64 0, .int .i64 0, .int .i64 0, .slice none 0 0, .int .i64 0, .int .i64 0, .int .i64 0, .int .i64 0] HZ4.out ac_info rfl (by simp [Value.oneCell']) ?_)
          refine bodyPost_ret (v := .tuple #[.agg #[.string ⟨#[]⟩, .int .i64 0, .int .i64 0, .int .i64 0, .int .i64 0, .slice none 0 0, .int .i64 0, .int .i64 0, .int .i64 0, .int .i64 0], .int .i64 150]) ?r ?d ?_
          case r => exact results_cell_tmp' rfl _ _ (w.heap.size + 1) 28 #[.string ⟨#[]⟩, .int .i64 0, .int .i64 0, .int .i64 0, .int .i64 0, .slice none 0 0, .int .i64 0, .int .i64 0, .int .i64 0, .int .i64 0] (0, 0) _ (.int .i64 150) rfl rfl (setRow_heap _ _ _ _ _ _ HZ4.out) Try.underlying28 rfl ac_info
          case d => rfl
          exact mad_none 150 (below_setRow HB4.out (by omega) _)
      · have eE : addE A v = 0 := by unfold addE; rw [if_pos hr, if_neg hn, if_pos hl, if_neg hg]
        have eA : addA A v = { A with base := A.base + v } := by unfold addA; rw [if_pos eE]
        have hR := (right_add eE).base
        rw [eA] at hR
        have kb : IntKind.i64.wrap (A.base + v) = A.base + v := by
          have q4 := hw.lo
          have q5 := hw.hi
          have : A.lo ≤ A.base + v ∧ A.base + v ≤ A.hi := hR
          rw [IntKind.wrap_i64]; unfold I64 at *; omega
        rw [eE, eA]
        have hc1 := room_nonneg A
        generalize upR A = u at *
        generalize downR A = d at *
        clear eE eA hR hr h hw hl
        unfold acval at CK LC RM ⊢
        by_cases hs0 : 0 < v
        · have k1 : IntKind.u64.wrap v = v := by rw [wrapU]; unfold I64 at hv; omega
          have k2 : ¬ u < v := by omega
          have k3 : ¬ v < 0 := by omega
          clear hg hn hv
          go_enter Try.func46, Try.ntmps46
          go_wp2_with fail
          obtain ⟨w1, ew, hb1, ha1, hz1⟩ := two_new w A a n c
          rw [← ew]
          have HB1 := hide hb1
          have HA1 := hide ha1
          have HZ1 := hide hz1
          clear hb1 ha1 hz1 ew
          obtain ⟨z0, z1, z2, z3, z4, z5, z6, z7, z8, z9⟩ := HA1.out.at_
          have hs1 : w.heap.size < w1.heap.size := HA1.out.lt
          have HZ1' : Hid (Zr w1 (w.heap.size + 1)) := HZ1.out.zr
          clear HZ1
          have HZ1 := HZ1'
          clear HZ1'
          refine ((CK _).out HB1.out).mono ?_
          rintro e w2 ⟨rfl, hb⟩
          have HB2 : Hid (Below w.heap.size w w2) := HB1.out.trans (hb.mono HB1.out.size)
          have HA2 := hide (HA1.out.below hb)
          have HZ2 := hide (HZ1.out.below hb)
          clear hb z0 z1 z2 z3 z4 z5 z6 z7 z8 z9
          obtain ⟨z0, z1, z2, z3, z4, z5, z6, z7, z8, z9⟩ := HA2.out.at_
          have hs2 : w.heap.size < w2.heap.size := HA2.out.lt
          have zf2 := HA2.out.fz
          go_wp2_with fail
          refine ((LC _).out).mono ?_
          rintro e w3 ⟨rfl, hb⟩
          have HB3 : Hid (Below w.heap.size w w3) := HB2.out.trans (hb.mono HB2.out.size)
          have HA3 := hide (HA2.out.below hb)
          have HZ3 := hide (HZ2.out.below hb)
          clear hb z0 z1 z2 z3 z4 z5 z6 z7 z8 z9
          obtain ⟨z0, z1, z2, z3, z4, z5, z6, z7, z8, z9⟩ := HA3.out.at_
          have hs3 : w.heap.size < w3.heap.size := HA3.out.lt
          have zf3 := HA3.out.fz
          go_wp2_with fail
          refine ((RM _).out HB3.out).mono ?_
          rintro e w4 ⟨rfl, hb⟩
          have HB4 : Hid (Below w.heap.size w w4) := HB3.out.trans (hb.mono HB3.out.size)
          have HA4 := hide (HA3.out.below hb)
          have HZ4 := hide (HZ3.out.below hb)
          clear hb z0 z1 z2 z3 z4 z5 z6 z7 z8 z9
          obtain ⟨z0, z1, z2, z3, z4, z5, z6, z7, z8, z9⟩ := HA4.out.at_
          have hs4 : w.heap.size < w4.heap.size := HA4.out.lt
          have zf4 := HA4.out.fz
          go_wp2_with fail
          refine (own_made (w := w) (A := { A with base := A.base + v }) (a := a) (n := n) (c := c) H.out (by repeat (first | with_reducible exact HB4.out | refine b_set ?_)) (by repeat (first | with_reducible exact HZ4.out | refine z_far ?_))).mono ?_
          rintro e w9 ⟨a', c', rfl, h5, hb5, hf5, hc5, hz5⟩
          have H5 := hide h5
          have B5 := hide hb5
          have F5 := hide hf5
          have C5 := hide hc5
          have Z5 := hide hz5
          clear h5 hb5 hf5 hc5 hz5 z0 z1 z2 z3 z4 z5 z6 z7 z8 z9
          go_wp2_with (refine wpList_store_row rfl 28 (.tmp 4) (.tmp 52) rfl (w.heap.size + 1) #[.string A.key, .int .i64 (A.lo), .int .i64 (A.hi), .int .i64 (A.base + v), .int .i64 (A.rd), (.slice a' n c'), .int .i64 (A.lk.c), .int .i64 (A.lk.s), .int .i64 (A.lk.h), .int .i64 (A.lk.n)] rfl rfl 28 #[.string ⟨#[]⟩, .int .i64 0, .int .i64 0, .int .i64 0, .int .i64 0, .slice none 0 0, .int .i64 0, .int .i64 0, .int .i64 0, .int .i64 0] Z5.out ac_info rfl (by simp [Value.oneCell']) ?_)
          refine bodyPost_ret (v := .tuple #[.agg #[.string A.key, .int .i64 (A.lo), .int .i64 (A.hi), .int .i64 (A.base + v), .int .i64 (A.rd), (.slice a' n c'), .int .i64 (A.lk.c), .int .i64 (A.lk.s), .int .i64 (A.lk.h), .int .i64 (A.lk.n)], .int .i64 0]) ?r ?d ?_
          case r => exact results_cell_tmp' rfl _ _ (w.heap.size + 1) 28 #[.string A.key, .int .i64 (A.lo), .int .i64 (A.hi), .int .i64 (A.base + v), .int .i64 (A.rd), (.slice a' n c'), .int .i64 (A.lk.c), .int .i64 (A.lk.s), .int .i64 (A.lk.h), .int .i64 (A.lk.n)] (0, 0) _ (.int .i64 0) rfl rfl (setRow_heap _ _ _ _ _ _ Z5.out) Try.underlying28 rfl ac_info
          case d => rfl
          exact ⟨a', n, c', rfl, H5.out _, below_setRow B5.out (by omega) _, F5.out, C5.out⟩
        · have k1 : IntKind.u64.wrap v = v + 18446744073709551616 := by rw [wrapU]; unfold I64 at hv; omega
          have k2 : ¬ d < -v := by omega
          have k3 : v < 0 := by omega
          have k4 : IntKind.u64.wrap (-(v + 18446744073709551616)) = -v := by rw [wrapU]; unfold I64 at hv; omega
          clear hg hn hv
          go_enter Try.func46, Try.ntmps46
          go_wp2_with fail
          obtain ⟨w1, ew, hb1, ha1, hz1⟩ := two_new w A a n c
          rw [← ew]
          have HB1 := hide hb1
          have HA1 := hide ha1
          have HZ1 := hide hz1
          clear hb1 ha1 hz1 ew
          obtain ⟨z0, z1, z2, z3, z4, z5, z6, z7, z8, z9⟩ := HA1.out.at_
          have hs1 : w.heap.size < w1.heap.size := HA1.out.lt
          have HZ1' : Hid (Zr w1 (w.heap.size + 1)) := HZ1.out.zr
          clear HZ1
          have HZ1 := HZ1'
          clear HZ1'
          refine ((CK _).out HB1.out).mono ?_
          rintro e w2 ⟨rfl, hb⟩
          have HB2 : Hid (Below w.heap.size w w2) := HB1.out.trans (hb.mono HB1.out.size)
          have HA2 := hide (HA1.out.below hb)
          have HZ2 := hide (HZ1.out.below hb)
          clear hb z0 z1 z2 z3 z4 z5 z6 z7 z8 z9
          obtain ⟨z0, z1, z2, z3, z4, z5, z6, z7, z8, z9⟩ := HA2.out.at_
          have hs2 : w.heap.size < w2.heap.size := HA2.out.lt
          have zf2 := HA2.out.fz
          go_wp2_with fail
          refine ((LC _).out).mono ?_
          rintro e w3 ⟨rfl, hb⟩
          have HB3 : Hid (Below w.heap.size w w3) := HB2.out.trans (hb.mono HB2.out.size)
          have HA3 := hide (HA2.out.below hb)
          have HZ3 := hide (HZ2.out.below hb)
          clear hb z0 z1 z2 z3 z4 z5 z6 z7 z8 z9
          obtain ⟨z0, z1, z2, z3, z4, z5, z6, z7, z8, z9⟩ := HA3.out.at_
          have hs3 : w.heap.size < w3.heap.size := HA3.out.lt
          have zf3 := HA3.out.fz
          go_wp2_with fail
          refine ((RM _).out HB3.out).mono ?_
          rintro e w4 ⟨rfl, hb⟩
          have HB4 : Hid (Below w.heap.size w w4) := HB3.out.trans (hb.mono HB3.out.size)
          have HA4 := hide (HA3.out.below hb)
          have HZ4 := hide (HZ3.out.below hb)
          clear hb z0 z1 z2 z3 z4 z5 z6 z7 z8 z9
          obtain ⟨z0, z1, z2, z3, z4, z5, z6, z7, z8, z9⟩ := HA4.out.at_
          have hs4 : w.heap.size < w4.heap.size := HA4.out.lt
          have zf4 := HA4.out.fz
          go_wp2_with fail
          refine (own_made (w := w) (A := { A with base := A.base + v }) (a := a) (n := n) (c := c) H.out (by repeat (first | with_reducible exact HB4.out | refine b_set ?_)) (by repeat (first | with_reducible exact HZ4.out | refine z_far ?_))).mono ?_
          rintro e w9 ⟨a', c', rfl, h5, hb5, hf5, hc5, hz5⟩
          have H5 := hide h5
          have B5 := hide hb5
          have F5 := hide hf5
          have C5 := hide hc5
          have Z5 := hide hz5
          clear h5 hb5 hf5 hc5 hz5 z0 z1 z2 z3 z4 z5 z6 z7 z8 z9
          go_wp2_with (refine wpList_store_row rfl 28 (.tmp 4) (.tmp 52) rfl (w.heap.size + 1) #[.string A.key, .int .i64 (A.lo), .int .i64 (A.hi), .int .i64 (A.base + v), .int .i64 (A.rd), (.slice a' n c'), .int .i64 (A.lk.c), .int .i64 (A.lk.s), .int .i64 (A.lk.h), .int .i64 (A.lk.n)] rfl rfl 28 #[.string ⟨#[]⟩, .int .i64 0, .int .i64 0, .int .i64 0, .int .i64 0, .slice none 0 0, .int .i64 0, .int .i64 0, .int .i64 0, .int .i64 0] Z5.out ac_info rfl (by simp [Value.oneCell']) ?_)
          refine bodyPost_ret (v := .tuple #[.agg #[.string A.key, .int .i64 (A.lo), .int .i64 (A.hi), .int .i64 (A.base + v), .int .i64 (A.rd), (.slice a' n c'), .int .i64 (A.lk.c), .int .i64 (A.lk.s), .int .i64 (A.lk.h), .int .i64 (A.lk.n)], .int .i64 0]) ?r ?d ?_
          case r => exact results_cell_tmp' rfl _ _ (w.heap.size + 1) 28 #[.string A.key, .int .i64 (A.lo), .int .i64 (A.hi), .int .i64 (A.base + v), .int .i64 (A.rd), (.slice a' n c'), .int .i64 (A.lk.c), .int .i64 (A.lk.s), .int .i64 (A.lk.h), .int .i64 (A.lk.n)] (0, 0) _ (.int .i64 0) rfl rfl (setRow_heap _ _ _ _ _ _ Z5.out) Try.underlying28 rfl ac_info
          case d => rfl
          exact ⟨a', n, c', rfl, H5.out _, below_setRow B5.out (by omega) _, F5.out, C5.out⟩
    · have e3 : lockedB A = true := by unfold lockedB; rw [decide_eq_false hl]; rfl
      rw [e3] at LC
      clear e3
      have eE : addE A v = 152 := by unfold addE; rw [if_pos hr, if_neg hn, if_neg hl]
      have eA : addA A v = ac0 := by unfold addA; rw [eE]; rfl
      rw [eE, eA]
      clear eE eA
      clear hr h hw hv RM hl
      unfold acval at *
      go_enter Try.func46, Try.ntmps46
      go_wp2_with fail
      obtain ⟨w1, ew, hb1, ha1, hz1⟩ := two_new w A a n c
      rw [← ew]
      have HB1 := hide hb1
      have HA1 := hide ha1
      have HZ1 := hide hz1
      clear hb1 ha1 hz1 ew
      obtain ⟨z0, z1, z2, z3, z4, z5, z6, z7, z8, z9⟩ := HA1.out.at_
      have hs1 : w.heap.size < w1.heap.size := HA1.out.lt
      have HZ1' : Hid (Zr w1 (w.heap.size + 1)) := HZ1.out.zr
      clear HZ1
      have HZ1 := HZ1'
      clear HZ1'
      refine ((CK _).out HB1.out).mono ?_
      rintro e w2 ⟨rfl, hb⟩
      have HB2 : Hid (Below w.heap.size w w2) := HB1.out.trans (hb.mono HB1.out.size)
      have HA2 := hide (HA1.out.below hb)
      have HZ2 := hide (HZ1.out.below hb)
      clear hb z0 z1 z2 z3 z4 z5 z6 z7 z8 z9
      obtain ⟨z0, z1, z2, z3, z4, z5, z6, z7, z8, z9⟩ := HA2.out.at_
      have hs2 : w.heap.size < w2.heap.size := HA2.out.lt
      have zf2 := HA2.out.fz
      go_wp2_with fail
      refine ((LC _).out).mono ?_
      rintro e w3 ⟨rfl, hb⟩
      have HB3 : Hid (Below w.heap.size w w3) := HB2.out.trans (hb.mono HB2.out.size)
      have HA3 := hide (HA2.out.below hb)
      have HZ3 := hide (HZ2.out.below hb)
      clear hb z0 z1 z2 z3 z4 z5 z6 z7 z8 z9
      obtain ⟨z0, z1, z2, z3, z4, z5, z6, z7, z8, z9⟩ := HA3.out.at_
      have hs3 : w.heap.size < w3.heap.size := HA3.out.lt
      have zf3 := HA3.out.fz
      go_wp2_with (refine wpList_store_row rfl 28 (.tmp 4) (.tmp 20) rfl (w.heap.size + 1) #[.string ⟨#[]⟩, .int .i64 0, .int .i64 0, .int .i64 0, .int .i64 0, .slice none 0 0, .int .i64 0, .int .i64 0, .int .i64 0, .int .i64 0] rfl rfl 28 #[.string ⟨#[]⟩, .int .i64 0, .int .i64 0, .int .i64 0, .int .i64 0, .slice none 0 0, .int .i64 0, .int .i64 0, .int .i64 0, .int .i64 0] HZ3.out ac_info rfl (by simp [Value.oneCell']) ?_)
      refine bodyPost_ret (v := .tuple #[.agg #[.string ⟨#[]⟩, .int .i64 0, .int .i64 0, .int .i64 0, .int .i64 0, .slice none 0 0, .int .i64 0, .int .i64 0, .int .i64 0, .int .i64 0], .int .i64 152]) ?r ?d ?_
      case r => exact results_cell_tmp' rfl _ _ (w.heap.size + 1) 28 #[.string ⟨#[]⟩, .int .i64 0, .int .i64 0, .int .i64 0, .int .i64 0, .slice none 0 0, .int .i64 0, .int .i64 0, .int .i64 0, .int .i64 0] (0, 0) _ (.int .i64 152) rfl rfl (setRow_heap _ _ _ _ _ _ HZ3.out) Try.underlying28 rfl ac_info
      case d => rfl
      exact mad_none 152 (below_setRow HB3.out (by omega) _)
  · have e4 : checkE A = 21 := by unfold checkE; rw [if_neg hr]
    rw [e4] at CK
    clear e4
    have eE : addE A v = 21 := by unfold addE; rw [if_neg hr]
    have eA : addA A v = ac0 := by unfold addA; rw [eE]; rfl
    rw [eE, eA]
    clear eE eA
    clear hr h hw hv RM LC
    unfold acval at *
    go_enter Try.func46, Try.ntmps46
    go_wp2_with fail
    obtain ⟨w1, ew, hb1, ha1, hz1⟩ := two_new w A a n c
    rw [← ew]
    have HB1 := hide hb1
    have HA1 := hide ha1
    have HZ1 := hide hz1
    clear hb1 ha1 hz1 ew
    obtain ⟨z0, z1, z2, z3, z4, z5, z6, z7, z8, z9⟩ := HA1.out.at_
    have hs1 : w.heap.size < w1.heap.size := HA1.out.lt
    have HZ1' : Hid (Zr w1 (w.heap.size + 1)) := HZ1.out.zr
    clear HZ1
    have HZ1 := HZ1'
    clear HZ1'
    refine ((CK _).out HB1.out).mono ?_
    rintro e w2 ⟨rfl, hb⟩
    have HB2 : Hid (Below w.heap.size w w2) := HB1.out.trans (hb.mono HB1.out.size)
    have HA2 := hide (HA1.out.below hb)
    have HZ2 := hide (HZ1.out.below hb)
    clear hb z0 z1 z2 z3 z4 z5 z6 z7 z8 z9
    obtain ⟨z0, z1, z2, z3, z4, z5, z6, z7, z8, z9⟩ := HA2.out.at_
    have hs2 : w.heap.size < w2.heap.size := HA2.out.lt
    have zf2 := HA2.out.fz
    go_wp2_with (refine wpList_store_row rfl 28 (.tmp 4) (.tmp 12) rfl (w.heap.size + 1) #[.string ⟨#[]⟩, .int .i64 0, .int .i64 0, .int .i64 0, .int .i64 0, .slice none 0 0, .int .i64 0, .int .i64 0, .int .i64 0, .int .i64 0] rfl rfl 28 #[.string ⟨#[]⟩, .int .i64 0, .int .i64 0, .int .i64 0, .int .i64 0, .slice none 0 0, .int .i64 0, .int .i64 0, .int .i64 0, .int .i64 0] HZ2.out ac_info rfl (by simp [Value.oneCell']) ?_)
    refine bodyPost_ret (v := .tuple #[.agg #[.string ⟨#[]⟩, .int .i64 0, .int .i64 0, .int .i64 0, .int .i64 0, .slice none 0 0, .int .i64 0, .int .i64 0, .int .i64 0, .int .i64 0], .int .i64 21]) ?r ?d ?_
    case r => exact results_cell_tmp' rfl _ _ (w.heap.size + 1) 28 #[.string ⟨#[]⟩, .int .i64 0, .int .i64 0, .int .i64 0, .int .i64 0, .slice none 0 0, .int .i64 0, .int .i64 0, .int .i64 0, .int .i64 0] (0, 0) _ (.int .i64 21) rfl rfl (setRow_heap _ _ _ _ _ _ HZ2.out) Try.underlying28 rfl ac_info
    case d => rfl
    exact mad_none 21 (below_setRow HB2.out (by omega) _)
end Go.Proofs.Ytjcbhgkfbilifaa
