/- What Bounds answers: the landed code. Condition: the account can be read. -/
import Derived.Test.YtfolpnjndlklkaaAcoMade
import Derived.Laws.Tables
namespace Go.Proofs.Ytfolpnjndlklkaa
open Go.ChangeShapes Go.WideShapes Go.ChangeAt Go.RowKit Ao
set_option linter.unusedVariables false

set_option maxRecDepth 100000 in
set_option maxHeartbeats 2000000 in
theorem bounds_any {w : World} {a : Option Addr} {n c : Nat} {A : Ac} {lo hi : Int} (h : Hs w a n A.hs) (hw : AcW A) : Calls Try.prog 51 #[acval A a n c, sval lo hi] w fun e w' => Mad w (boundsA A lo hi) (boundsE A lo hi) e w' := by
  have H := hide h
  have CK := fun W => hide (fun hW : Below w.heap.size w W => check_any (c := c) (h.below hW) hw)
  have hl := h.len
  have hrm := h.room
  have KN := fun W => hide (known_any (a := a) c W hl (by omega))
  have HS := fun W => hide (has_b lo hi A.base W)
  have tb := totalB_eq A
  by_cases hr : rightB A = true
  · have e4 : checkE A = 0 := by unfold checkE; rw [if_pos hr]
    rw [e4] at CK
    rw [hr, Bool.true_and] at tb
    clear e4
    cases hk : knownB A
    · rw [hk] at KN tb
      have eE : boundsE A lo hi = 152 := by unfold boundsE; rw [if_pos hr, tb]; rfl
      have eA : boundsA A lo hi = ac0 := by unfold boundsA; rw [eE]; rfl
      rw [eE, eA]
      clear eE eA
      clear hr hk h hw tb hl hrm HS
      unfold acval sval at *
      go_enter Try.func51, Try.ntmps51
      go_wp2_with fail
      obtain ⟨w1, ew, hb1, ha1, hx1, hz1⟩ := span_new w A a n c lo hi
      rw [← ew]
      have HB1 := hide hb1
      have HA1 := hide ha1
      have HX1 := hide hx1
      have HZ1 := hide hz1
      clear hb1 ha1 hx1 hz1 ew
      obtain ⟨z0, z1, z2, z3, z4, z5, z6, z7, z8, z9⟩ := HA1.out.at_
      obtain ⟨s0, s1⟩ := HX1.out.at_
      have hs1 : w.heap.size < w1.heap.size := HA1.out.lt
      have hx1 : w.heap.size + 1 < w1.heap.size := HX1.out.lt
      refine ((CK _).out HB1.out).mono ?_
      rintro e w2 ⟨rfl, hb⟩
      have HB2 : Hid (Below w.heap.size w w2) := HB1.out.trans (hb.mono HB1.out.size)
      have HA2 := hide (HA1.out.below hb)
      have HZ2 := hide (HZ1.out.below hb)
      have HX2 := hide (HX1.out.below hb)
      clear hb z0 z1 z2 z3 z4 z5 z6 z7 z8 z9 s0 s1
      obtain ⟨z0, z1, z2, z3, z4, z5, z6, z7, z8, z9⟩ := HA2.out.at_
      obtain ⟨s0, s1⟩ := HX2.out.at_
      have hs2 : w.heap.size < w2.heap.size := HA2.out.lt
      have hx2 : w.heap.size + 1 < w2.heap.size := HX2.out.lt
      have zf2 := HA2.out.fz
      go_wp2_with fail
      refine ((KN _).out).mono ?_
      rintro e w3 ⟨rfl, hb⟩
      have HB3 : Hid (Below w.heap.size w w3) := HB2.out.trans (hb.mono HB2.out.size)
      have HA3 := hide (HA2.out.below hb)
      have HZ3 := hide (HZ2.out.below hb)
      have HX3 := hide (HX2.out.below hb)
      clear hb z0 z1 z2 z3 z4 z5 z6 z7 z8 z9 s0 s1
      obtain ⟨z0, z1, z2, z3, z4, z5, z6, z7, z8, z9⟩ := HA3.out.at_
      obtain ⟨s0, s1⟩ := HX3.out.at_
      have hs3 : w.heap.size < w3.heap.size := HA3.out.lt
      have hx3 : w.heap.size + 1 < w3.heap.size := HX3.out.lt
      have zf3 := HA3.out.fz
      go_wp2_with (refine wpList_store_row rfl 28 (.tmp 4) (.tmp 15) rfl (w.heap.size + 2) #[.string ⟨#[]⟩, .int .i64 0, .int .i64 0, .int .i64 0, .int .i64 0, .slice none 0 0, .int .i64 0, .int .i64 0, .int .i64 0, .int .i64 0] rfl rfl 28 #[.string ⟨#[]⟩, .int .i64 0, .int .i64 0, .int .i64 0, .int .i64 0, .slice none 0 0, .int .i64 0, .int .i64 0, .int .i64 0, .int .i64 0] HZ3.out ac_info rfl (by simp [Value.oneCell']) ?_)
      refine bodyPost_ret (v := .tuple #[.agg #[.string ⟨#[]⟩, .int .i64 0, .int .i64 0, .int .i64 0, .int .i64 0, .slice none 0 0, .int .i64 0, .int .i64 0, .int .i64 0, .int .i64 0], .int .i64 152]) ?r ?d ?_
      case r => exact results_cell_tmp' rfl _ _ (w.heap.size + 2) 28 #[.string ⟨#[]⟩, .int .i64 0, .int .i64 0, .int .i64 0, .int .i64 0, .slice none 0 0, .int .i64 0, .int .i64 0, .int .i64 0, .int .i64 0] (0, 0) _ (.int .i64 152) rfl rfl (setRow_heap _ _ _ _ _ _ HZ3.out) Try.underlying28 rfl ac_info
      case d => rfl
      exact mad_none 152 (below_setRow HB3.out (by omega) _)
    · rw [hk] at KN tb
      by_cases hg : lo ≤ A.base ∧ A.base ≤ hi
      · rw [hasB_true hg] at HS
        have eE : boundsE A lo hi = 0 := by unfold boundsE; rw [if_pos hr, if_pos tb, if_pos hg]
        have eA : boundsA A lo hi = { A with lo := lo, hi := hi } := by unfold boundsA; rw [if_pos eE]
        rw [eE, eA]
        clear eE eA hr hk h hw tb hl hrm hg
        unfold acval at CK KN ⊢
        unfold sval
        go_enter Try.func51, Try.ntmps51
        go_wp2_with fail
        obtain ⟨w1, ew, hb1, ha1, hx1, hz1⟩ := span_new w A a n c lo hi
        rw [← ew]
        have HB1 := hide hb1
        have HA1 := hide ha1
        have HX1 := hide hx1
        have HZ1 := hide hz1
        clear hb1 ha1 hx1 hz1 ew
        obtain ⟨z0, z1, z2, z3, z4, z5, z6, z7, z8, z9⟩ := HA1.out.at_
        obtain ⟨s0, s1⟩ := HX1.out.at_
        have hs1 : w.heap.size < w1.heap.size := HA1.out.lt
        have hx1 : w.heap.size + 1 < w1.heap.size := HX1.out.lt
        refine ((CK _).out HB1.out).mono ?_
        rintro e w2 ⟨rfl, hb⟩
        have HB2 : Hid (Below w.heap.size w w2) := HB1.out.trans (hb.mono HB1.out.size)
        have HA2 := hide (HA1.out.below hb)
        have HZ2 := hide (HZ1.out.below hb)
        have HX2 := hide (HX1.out.below hb)
        clear hb z0 z1 z2 z3 z4 z5 z6 z7 z8 z9 s0 s1
        obtain ⟨z0, z1, z2, z3, z4, z5, z6, z7, z8, z9⟩ := HA2.out.at_
        obtain ⟨s0, s1⟩ := HX2.out.at_
        have hs2 : w.heap.size < w2.heap.size := HA2.out.lt
        have hx2 : w.heap.size + 1 < w2.heap.size := HX2.out.lt
        have zf2 := HA2.out.fz
        go_wp2_with fail
        refine ((KN _).out).mono ?_
        rintro e w3 ⟨rfl, hb⟩
        have HB3 : Hid (Below w.heap.size w w3) := HB2.out.trans (hb.mono HB2.out.size)
        have HA3 := hide (HA2.out.below hb)
        have HZ3 := hide (HZ2.out.below hb)
        have HX3 := hide (HX2.out.below hb)
        clear hb z0 z1 z2 z3 z4 z5 z6 z7 z8 z9 s0 s1
        obtain ⟨z0, z1, z2, z3, z4, z5, z6, z7, z8, z9⟩ := HA3.out.at_
        obtain ⟨s0, s1⟩ := HX3.out.at_
        have hs3 : w.heap.size < w3.heap.size := HA3.out.lt
        have hx3 : w.heap.size + 1 < w3.heap.size := HX3.out.lt
        have zf3 := HA3.out.fz
        go_wp2_with fail
        refine ((HS _).out).mono ?_
        rintro e w4 ⟨rfl, hb⟩
        have HB4 : Hid (Below w.heap.size w w4) := HB3.out.trans (hb.mono HB3.out.size)
        have HA4 := hide (HA3.out.below hb)
        have HZ4 := hide (HZ3.out.below hb)
        have HX4 := hide (HX3.out.below hb)
        clear hb z0 z1 z2 z3 z4 z5 z6 z7 z8 z9 s0 s1
        obtain ⟨z0, z1, z2, z3, z4, z5, z6, z7, z8, z9⟩ := HA4.out.at_
        obtain ⟨s0, s1⟩ := HX4.out.at_
        have hs4 : w.heap.size < w4.heap.size := HA4.out.lt
        have hx4 : w.heap.size + 1 < w4.heap.size := HX4.out.lt
        have zf4 := HA4.out.fz
        go_wp2_with fail
        refine (own_made2 (w := w) (A := { A with lo := lo, hi := hi }) (a := a) (n := n) (c := c) H.out (by repeat (first | with_reducible exact HB4.out | refine b_set ?_)) (by repeat (first | with_reducible exact HZ4.out | refine z_far2 ?_))).mono ?_
        rintro e w9 ⟨a', c', rfl, h5, hb5, hf5, hc5, hz5⟩
        have H5 := hide h5
        have B5 := hide hb5
        have F5 := hide hf5
        have C5 := hide hc5
        have Z5 := hide hz5
        clear h5 hb5 hf5 hc5 hz5 z0 z1 z2 z3 z4 z5 z6 z7 z8 z9 s0 s1
        go_wp2_with (refine wpList_store_row rfl 28 (.tmp 4) (.tmp 26) rfl (w.heap.size + 2) #[.string A.key, .int .i64 (lo), .int .i64 (hi), .int .i64 (A.base), .int .i64 (A.rd), (.slice a' n c'), .int .i64 (A.lk.c), .int .i64 (A.lk.s), .int .i64 (A.lk.h), .int .i64 (A.lk.n)] rfl rfl 28 #[.string ⟨#[]⟩, .int .i64 0, .int .i64 0, .int .i64 0, .int .i64 0, .slice none 0 0, .int .i64 0, .int .i64 0, .int .i64 0, .int .i64 0] Z5.out ac_info rfl (by simp [Value.oneCell']) ?_)
        refine bodyPost_ret (v := .tuple #[.agg #[.string A.key, .int .i64 (lo), .int .i64 (hi), .int .i64 (A.base), .int .i64 (A.rd), (.slice a' n c'), .int .i64 (A.lk.c), .int .i64 (A.lk.s), .int .i64 (A.lk.h), .int .i64 (A.lk.n)], .int .i64 0]) ?r ?d ?_
        case r => exact results_cell_tmp' rfl _ _ (w.heap.size + 2) 28 #[.string A.key, .int .i64 (lo), .int .i64 (hi), .int .i64 (A.base), .int .i64 (A.rd), (.slice a' n c'), .int .i64 (A.lk.c), .int .i64 (A.lk.s), .int .i64 (A.lk.h), .int .i64 (A.lk.n)] (0, 0) _ (.int .i64 0) rfl rfl (setRow_heap _ _ _ _ _ _ Z5.out) Try.underlying28 rfl ac_info
        case d => rfl
        exact ⟨a', n, c', rfl, H5.out _, below_setRow B5.out (by omega) _, F5.out, C5.out⟩
      · rw [hasB_false hg] at HS
        have eE : boundsE A lo hi = 150 := by unfold boundsE; rw [if_pos hr, if_pos tb, if_neg hg]
        have eA : boundsA A lo hi = ac0 := by unfold boundsA; rw [eE]; rfl
        rw [eE, eA]
        clear eE eA
        clear hr hk h hw tb hl hrm hg
        unfold acval sval at *
        go_enter Try.func51, Try.ntmps51
        go_wp2_with fail
        obtain ⟨w1, ew, hb1, ha1, hx1, hz1⟩ := span_new w A a n c lo hi
        rw [← ew]
        have HB1 := hide hb1
        have HA1 := hide ha1
        have HX1 := hide hx1
        have HZ1 := hide hz1
        clear hb1 ha1 hx1 hz1 ew
        obtain ⟨z0, z1, z2, z3, z4, z5, z6, z7, z8, z9⟩ := HA1.out.at_
        obtain ⟨s0, s1⟩ := HX1.out.at_
        have hs1 : w.heap.size < w1.heap.size := HA1.out.lt
        have hx1 : w.heap.size + 1 < w1.heap.size := HX1.out.lt
        refine ((CK _).out HB1.out).mono ?_
        rintro e w2 ⟨rfl, hb⟩
        have HB2 : Hid (Below w.heap.size w w2) := HB1.out.trans (hb.mono HB1.out.size)
        have HA2 := hide (HA1.out.below hb)
        have HZ2 := hide (HZ1.out.below hb)
        have HX2 := hide (HX1.out.below hb)
        clear hb z0 z1 z2 z3 z4 z5 z6 z7 z8 z9 s0 s1
        obtain ⟨z0, z1, z2, z3, z4, z5, z6, z7, z8, z9⟩ := HA2.out.at_
        obtain ⟨s0, s1⟩ := HX2.out.at_
        have hs2 : w.heap.size < w2.heap.size := HA2.out.lt
        have hx2 : w.heap.size + 1 < w2.heap.size := HX2.out.lt
        have zf2 := HA2.out.fz
        go_wp2_with fail
        refine ((KN _).out).mono ?_
        rintro e w3 ⟨rfl, hb⟩
        have HB3 : Hid (Below w.heap.size w w3) := HB2.out.trans (hb.mono HB2.out.size)
        have HA3 := hide (HA2.out.below hb)
        have HZ3 := hide (HZ2.out.below hb)
        have HX3 := hide (HX2.out.below hb)
        clear hb z0 z1 z2 z3 z4 z5 z6 z7 z8 z9 s0 s1
        obtain ⟨z0, z1, z2, z3, z4, z5, z6, z7, z8, z9⟩ := HA3.out.at_
        obtain ⟨s0, s1⟩ := HX3.out.at_
        have hs3 : w.heap.size < w3.heap.size := HA3.out.lt
        have hx3 : w.heap.size + 1 < w3.heap.size := HX3.out.lt
        have zf3 := HA3.out.fz
        go_wp2_with fail
        refine ((HS _).out).mono ?_
        rintro e w4 ⟨rfl, hb⟩
        have HB4 : Hid (Below w.heap.size w w4) := HB3.out.trans (hb.mono HB3.out.size)
        have HA4 := hide (HA3.out.below hb)
        have HZ4 := hide (HZ3.out.below hb)
        have HX4 := hide (HX3.out.below hb)
        clear hb z0 z1 z2 z3 z4 z5 z6 z7 z8 z9 s0 s1
        obtain ⟨z0, z1, z2, z3, z4, z5, z6, z7, z8, z9⟩ := HA4.out.at_
        obtain ⟨s0, s1⟩ := HX4.out.at_
        have hs4 : w.heap.size < w4.heap.size := HA4.out.lt
        have hx4 : w.heap.size + 1 < w4.heap.size := HX4.out.lt
        have zf4 := HA4.out.fz
        go_wp2_with (refine wpList_store_row rfl 28 (.tmp 4) (.tmp 22) rfl (w.heap.size + 2) #[.string ⟨#[]⟩, .int .i64 0, .int .i64 0, .int .i64 0, .int .i64 0, .slice none 0 0, .int .i64 0, .int .i64 0, .int .i64 0, .int .i64 0] rfl rfl 28 #[.string ⟨#[]⟩, .int .i64 0, .int .i64 0, .int .i64 0, .int .i64 0, .slice none 0 0, .int .i64 0, .int .i64 0, .int .i64 0, .int .i64 0] HZ4.out ac_info rfl (by simp [Value.oneCell']) ?_)
        refine bodyPost_ret (v := .tuple #[.agg #[.string ⟨#[]⟩, .int .i64 0, .int .i64 0, .int .i64 0, .int .i64 0, .slice none 0 0, .int .i64 0, .int .i64 0, .int .i64 0, .int .i64 0], .int .i64 150]) ?r ?d ?_
        case r => exact results_cell_tmp' rfl _ _ (w.heap.size + 2) 28 #[.string ⟨#[]⟩, .int .i64 0, .int .i64 0, .int .i64 0, .int .i64 0, .slice none 0 0, .int .i64 0, .int .i64 0, .int .i64 0, .int .i64 0] (0, 0) _ (.int .i64 150) rfl rfl (setRow_heap _ _ _ _ _ _ HZ4.out) Try.underlying28 rfl ac_info
        case d => rfl
        exact mad_none 150 (below_setRow HB4.out (by omega) _)
  · have e4 : checkE A = 21 := by unfold checkE; rw [if_neg hr]
    rw [e4] at CK
    clear e4
    have eE : boundsE A lo hi = 21 := by unfold boundsE; rw [if_neg hr]
    have eA : boundsA A lo hi = ac0 := by unfold boundsA; rw [eE]; rfl
    rw [eE, eA]
    clear eE eA
    clear hr h hw tb hl hrm HS KN
    unfold acval sval at *
    go_enter Try.func51, Try.ntmps51
    go_wp2_with fail
    obtain ⟨w1, ew, hb1, ha1, hx1, hz1⟩ := span_new w A a n c lo hi
    rw [← ew]
    have HB1 := hide hb1
    have HA1 := hide ha1
    have HX1 := hide hx1
    have HZ1 := hide hz1
    clear hb1 ha1 hx1 hz1 ew
    obtain ⟨z0, z1, z2, z3, z4, z5, z6, z7, z8, z9⟩ := HA1.out.at_
    obtain ⟨s0, s1⟩ := HX1.out.at_
    have hs1 : w.heap.size < w1.heap.size := HA1.out.lt
    have hx1 : w.heap.size + 1 < w1.heap.size := HX1.out.lt
    refine ((CK _).out HB1.out).mono ?_
    rintro e w2 ⟨rfl, hb⟩
    have HB2 : Hid (Below w.heap.size w w2) := HB1.out.trans (hb.mono HB1.out.size)
    have HA2 := hide (HA1.out.below hb)
    have HZ2 := hide (HZ1.out.below hb)
    have HX2 := hide (HX1.out.below hb)
    clear hb z0 z1 z2 z3 z4 z5 z6 z7 z8 z9 s0 s1
    obtain ⟨z0, z1, z2, z3, z4, z5, z6, z7, z8, z9⟩ := HA2.out.at_
    obtain ⟨s0, s1⟩ := HX2.out.at_
    have hs2 : w.heap.size < w2.heap.size := HA2.out.lt
    have hx2 : w.heap.size + 1 < w2.heap.size := HX2.out.lt
    have zf2 := HA2.out.fz
    go_wp2_with (refine wpList_store_row rfl 28 (.tmp 4) (.tmp 10) rfl (w.heap.size + 2) #[.string ⟨#[]⟩, .int .i64 0, .int .i64 0, .int .i64 0, .int .i64 0, .slice none 0 0, .int .i64 0, .int .i64 0, .int .i64 0, .int .i64 0] rfl rfl 28 #[.string ⟨#[]⟩, .int .i64 0, .int .i64 0, .int .i64 0, .int .i64 0, .slice none 0 0, .int .i64 0, .int .i64 0, .int .i64 0, .int .i64 0] HZ2.out ac_info rfl (by simp [Value.oneCell']) ?_)
    refine bodyPost_ret (v := .tuple #[.agg #[.string ⟨#[]⟩, .int .i64 0, .int .i64 0, .int .i64 0, .int .i64 0, .slice none 0 0, .int .i64 0, .int .i64 0, .int .i64 0, .int .i64 0], .int .i64 21]) ?r ?d ?_
    case r => exact results_cell_tmp' rfl _ _ (w.heap.size + 2) 28 #[.string ⟨#[]⟩, .int .i64 0, .int .i64 0, .int .i64 0, .int .i64 0, .slice none 0 0, .int .i64 0, .int .i64 0, .int .i64 0, .int .i64 0] (0, 0) _ (.int .i64 21) rfl rfl (setRow_heap _ _ _ _ _ _ HZ2.out) Try.underlying28 rfl ac_info
    case d => rfl
    exact mad_none 21 (below_setRow HB2.out (by omega) _)
end Go.Proofs.Ytfolpnjndlklkaa
