/- What Freeze, Thaw and Free answer: the landed code. Condition: the account can be read. What Bounds answers: the landed code. Condition: the account can be read. What Take answers: the landed code. Condition: the account can be read. -/
import Derived.Test.YtjcbhgkfbilifabFAcoMade
import Derived.Laws.Tables
namespace Go.Proofs.Ytjcbhgkfbilifab
open Go.ChangeShapes Go.WideShapes Go.ChangeAt Go.RowKit Ao
set_option linter.unusedVariables false

set_option maxRecDepth 100000 in
set_option maxHeartbeats 2000000 in
theorem freeze_any {w : World} {a : Option Addr} {n c : Nat} {A : Ac} {v : Int} (h : Hs w a n A.hs) (hw : AcW A) : Calls Try.prog 9 #[acval A a n c, .int .i64 v] w fun e w' => Mad w (freezeA A v) (freezeE A v) e w' := by
  have H := hide h
  have CK := fun W => hide (fun hW : Below w.heap.size w W => check_any (c := c) (h.below hW) hw)
  have NU := fun W => hide (number_any v W)
  by_cases hr : rightB A = true
  · have e4 : checkE A = 0 := by unfold checkE; rw [if_pos hr]
    rw [e4] at CK
    clear e4
    by_cases hn : numB v = true
    · rw [hn] at NU
      have eE : freezeE A v = 0 := by unfold freezeE; rw [if_pos hr, if_pos hn]
      have eA : freezeA A v = if A.rd = 0 then { A with rd := v } else A := by unfold freezeA; rw [if_pos eE]
      rw [eE, eA]
      clear eE eA hn hr h hw
      by_cases h0 : A.rd = 0
      · rw [if_pos h0]
        obtain ⟨ak, alo, ahi, ab, ard, ahs, alk⟩ := A
        obtain rfl : ard = 0 := h0
        unfold acval at CK ⊢
        go_enter Try.func9, Try.ntmps9
        go_wp2_with fail
        obtain ⟨w1, ew, hb1, ha1, hz1⟩ := two_new w ⟨ak, alo, ahi, ab, 0, ahs, alk⟩ a n c
        rw [← ew]
        have HB1 := hide hb1
        have HA1 := hide ha1
        have HZ1 := hide hz1
        clear hb1 ha1 hz1 ew
        obtain ⟨z0, z1, z2, z3, z4, z5, z6, z7, z8, z9⟩ := HA1.out.at_
        have hs1 : w.heap.size < w1.heap.size := HA1.out.lt
        have HZ1' : Hid (Zr w1 (w.heap.size + 1)) := HZ1.out.zr
        clear HZ1
        have HZ1 := HZ1'
        clear HZ1'
        refine ((CK _).out HB1.out).mono ?_
        rintro e w2 ⟨rfl, hb⟩
        have HB2 : Hid (Below w.heap.size w w2) := HB1.out.trans (hb.mono HB1.out.size)
        have HA2 := hide (HA1.out.below hb)
        have HZ2 := hide (HZ1.out.below hb)
        clear hb z0 z1 z2 z3 z4 z5 z6 z7 z8 z9
        obtain ⟨z0, z1, z2, z3, z4, z5, z6, z7, z8, z9⟩ := HA2.out.at_
        have hs2 : w.heap.size < w2.heap.size := HA2.out.lt
        have zf2 := HA2.out.fz
        go_wp2_with (go_at_call 30; refine ((NU _).out).mono ?_; rintro e w' ⟨rfl, hw⟩; rw [hw]; clear hw)
        refine (own_made (w := w) (A := ⟨ak, alo, ahi, ab, v, ahs, alk⟩) (a := a) (n := n) (c := c) H.out (by repeat (first | with_reducible exact HB2.out | refine b_set ?_)) (by repeat (first | with_reducible exact HZ2.out | refine z_far ?_))).mono ?_
        rintro e w9 ⟨a', c', rfl, h5, hb5, hf5, hc5, hz5⟩
        have H5 := hide h5
        have B5 := hide hb5
        have F5 := hide hf5
        have C5 := hide hc5
        have Z5 := hide hz5
        clear h5 hb5 hf5 hc5 hz5 z0 z1 z2 z3 z4 z5 z6 z7 z8 z9
        go_wp2_with (refine wpList_store_row rfl 28 (.tmp 4) (.tmp 22) rfl (w.heap.size + 1) #[.string ak, .int .i64 (alo), .int .i64 (ahi), .int .i64 (ab), .int .i64 (v), (.slice a' n c'), .int .i64 (alk.c), .int .i64 (alk.s), .int .i64 (alk.h), .int .i64 (alk.n)] rfl rfl 28 #[.string ⟨#[]⟩, .int .i64 0, .int .i64 0, .int .i64 0, .int .i64 0, .slice none 0 0, .int .i64 0, .int .i64 0, .int .i64 0, .int .i64 0] Z5.out ac_info rfl (by simp [Value.oneCell']) ?_)
        refine bodyPost_ret (v := .tuple #[.agg #[.string ak, .int .i64 (alo), .int .i64 (ahi), .int .i64 (ab), .int .i64 (v), (.slice a' n c'), .int .i64 (alk.c), .int .i64 (alk.s), .int .i64 (alk.h), .int .i64 (alk.n)], .int .i64 0]) ?r ?d ?_
        case r => exact results_cell_tmp' rfl _ _ (w.heap.size + 1) 28 #[.string ak, .int .i64 (alo), .int .i64 (ahi), .int .i64 (ab), .int .i64 (v), (.slice a' n c'), .int .i64 (alk.c), .int .i64 (alk.s), .int .i64 (alk.h), .int .i64 (alk.n)] (0, 0) _ (.int .i64 0) rfl rfl (setRow_heap _ _ _ _ _ _ Z5.out) Try.underlying28 rfl ac_info
        case d => rfl
        exact ⟨a', n, c', rfl, H5.out _, below_setRow B5.out (by omega) _, F5.out, C5.out⟩
      · rw [if_neg h0]
        unfold acval at CK ⊢
        go_enter Try.func9, Try.ntmps9
        go_wp2_with fail
        obtain ⟨w1, ew, hb1, ha1, hz1⟩ := two_new w A a n c
        rw [← ew]
        have HB1 := hide hb1
        have HA1 := hide ha1
        have HZ1 := hide hz1
        clear hb1 ha1 hz1 ew
        obtain ⟨z0, z1, z2, z3, z4, z5, z6, z7, z8, z9⟩ := HA1.out.at_
        have hs1 : w.heap.size < w1.heap.size := HA1.out.lt
        have HZ1' : Hid (Zr w1 (w.heap.size + 1)) := HZ1.out.zr
        clear HZ1
        have HZ1 := HZ1'
        clear HZ1'
        refine ((CK _).out HB1.out).mono ?_
        rintro e w2 ⟨rfl, hb⟩
        have HB2 : Hid (Below w.heap.size w w2) := HB1.out.trans (hb.mono HB1.out.size)
        have HA2 := hide (HA1.out.below hb)
        have HZ2 := hide (HZ1.out.below hb)
        clear hb z0 z1 z2 z3 z4 z5 z6 z7 z8 z9
        obtain ⟨z0, z1, z2, z3, z4, z5, z6, z7, z8, z9⟩ := HA2.out.at_
        have hs2 : w.heap.size < w2.heap.size := HA2.out.lt
        have zf2 := HA2.out.fz
        go_wp2_with (go_at_call 30; refine ((NU _).out).mono ?_; rintro e w' ⟨rfl, hw⟩; rw [hw]; clear hw)
        refine (own_made (w := w) (A := A) (a := a) (n := n) (c := c) H.out (by repeat (first | with_reducible exact HB2.out | refine b_set ?_)) (by repeat (first | with_reducible exact HZ2.out | refine z_far ?_))).mono ?_
        rintro e w9 ⟨a', c', rfl, h5, hb5, hf5, hc5, hz5⟩
        have H5 := hide h5
        have B5 := hide hb5
        have F5 := hide hf5
        have C5 := hide hc5
        have Z5 := hide hz5
        clear h5 hb5 hf5 hc5 hz5 z0 z1 z2 z3 z4 z5 z6 z7 z8 z9
        go_wp2_with (refine wpList_store_row rfl 28 (.tmp 4) (.tmp 22) rfl (w.heap.size + 1) #[.string A.key, .int .i64 (A.lo), .int .i64 (A.hi), .int .i64 (A.base), .int .i64 (A.rd), (.slice a' n c'), .int .i64 (A.lk.c), .int .i64 (A.lk.s), .int .i64 (A.lk.h), .int .i64 (A.lk.n)] rfl rfl 28 #[.string ⟨#[]⟩, .int .i64 0, .int .i64 0, .int .i64 0, .int .i64 0, .slice none 0 0, .int .i64 0, .int .i64 0, .int .i64 0, .int .i64 0] Z5.out ac_info rfl (by simp [Value.oneCell']) ?_)
        refine bodyPost_ret (v := .tuple #[.agg #[.string A.key, .int .i64 (A.lo), .int .i64 (A.hi), .int .i64 (A.base), .int .i64 (A.rd), (.slice a' n c'), .int .i64 (A.lk.c), .int .i64 (A.lk.s), .int .i64 (A.lk.h), .int .i64 (A.lk.n)], .int .i64 0]) ?r ?d ?_
        case r => exact results_cell_tmp' rfl _ _ (w.heap.size + 1) 28 #[.string A.key, .int .i64 (A.lo), .int .i64 (A.hi), .int .i64 (A.base), .int .i64 (A.rd), (.slice a' n c'), .int .i64 (A.lk.c), .int .i64 (A.lk.s), .int .i64 (A.lk.h), .int .i64 (A.lk.n)] (0, 0) _ (.int .i64 0) rfl rfl (setRow_heap _ _ _ _ _ _ Z5.out) Try.underlying28 rfl ac_info
        case d => rfl
        exact ⟨a', n, c', rfl, H5.out _, below_setRow B5.out (by omega) _, F5.out, C5.out⟩
    · have hn2 : numB v = false := by cases e : numB v <;> simp_all
      rw [hn2] at NU
      have eE : freezeE A v = 1 := by unfold freezeE; rw [if_pos hr, if_neg hn]
      have eA : freezeA A v = ac0 := by unfold freezeA; rw [eE]; rfl
      rw [eE, eA]
      clear eE eA
      clear hn hn2 hr h hw
      unfold acval at *
      go_enter Try.func9, Try.ntmps9
      go_wp2_with fail
      obtain ⟨w1, ew, hb1, ha1, hz1⟩ := two_new w A a n c
      rw [← ew]
      have HB1 := hide hb1
      have HA1 := hide ha1
      have HZ1 := hide hz1
      clear hb1 ha1 hz1 ew
      obtain ⟨z0, z1, z2, z3, z4, z5, z6, z7, z8, z9⟩ := HA1.out.at_
      have hs1 : w.heap.size < w1.heap.size := HA1.out.lt
      have HZ1' : Hid (Zr w1 (w.heap.size + 1)) := HZ1.out.zr
      clear HZ1
      have HZ1 := HZ1'
      clear HZ1'
      refine ((CK _).out HB1.out).mono ?_
      rintro e w2 ⟨rfl, hb⟩
      have HB2 : Hid (Below w.heap.size w w2) := HB1.out.trans (hb.mono HB1.out.size)
      have HA2 := hide (HA1.out.below hb)
      have HZ2 := hide (HZ1.out.below hb)
      clear hb z0 z1 z2 z3 z4 z5 z6 z7 z8 z9
      obtain ⟨z0, z1, z2, z3, z4, z5, z6, z7, z8, z9⟩ := HA2.out.at_
      have hs2 : w.heap.size < w2.heap.size := HA2.out.lt
      have zf2 := HA2.out.fz
      go_wp2_with (first | (go_at_call 30; refine ((NU _).out).mono ?_; rintro e w' ⟨rfl, hw⟩; rw [hw]; clear hw) | (refine wpList_store_row rfl 28 (.tmp 4) (.tmp 15) rfl (w.heap.size + 1) #[.string ⟨#[]⟩, .int .i64 0, .int .i64 0, .int .i64 0, .int .i64 0, .slice none 0 0, .int .i64 0, .int .i64 0, .int .i64 0, .int .i64 0] rfl rfl 28 #[.string ⟨#[]⟩, .int .i64 0, .int .i64 0, .int .i64 0, .int .i64 0, .slice none 0 0, .int .i64 0, .int .i64 0, .int .i64 0, .int .i64 0] HZ2.out ac_info rfl (by simp [Value.oneCell']) ?_))
      refine bodyPost_ret (v := .tuple #[.agg #[.string ⟨#[]⟩, .int .i64 0, .int .i64 0, .int .i64 0, .int .i64 0, .slice none 0 0, .int .i64 0, .int .i64 0, .int .i64 0, .int .i64 0], .int .i64 1]) ?r ?d ?_
      case r => exact results_cell_tmp' rfl _ _ (w.heap.size + 1) 28 #[.string ⟨#[]⟩, .int .i64 0, .int .i64 0, .int .i64 0, .int .i64 0, .slice none 0 0, .int .i64 0, .int .i64 0, .int .i64 0, .int .i64 0] (0, 0) _ (.int .i64 1) rfl rfl (setRow_heap _ _ _ _ _ _ HZ2.out) Try.underlying28 rfl ac_info
      case d => rfl
      exact mad_none 1 (below_setRow HB2.out (by omega) _)
  · have e4 : checkE A = 21 := by unfold checkE; rw [if_neg hr]
    rw [e4] at CK
    clear e4
    have eE : freezeE A v = 21 := by unfold freezeE; rw [if_neg hr]
    have eA : freezeA A v = ac0 := by unfold freezeA; rw [eE]; rfl
    rw [eE, eA]
    clear eE eA
    clear hr h hw NU
    unfold acval at *
    go_enter Try.func9, Try.ntmps9
    go_wp2_with fail
    obtain ⟨w1, ew, hb1, ha1, hz1⟩ := two_new w A a n c
    rw [← ew]
    have HB1 := hide hb1
    have HA1 := hide ha1
    have HZ1 := hide hz1
    clear hb1 ha1 hz1 ew
    obtain ⟨z0, z1, z2, z3, z4, z5, z6, z7, z8, z9⟩ := HA1.out.at_
    have hs1 : w.heap.size < w1.heap.size := HA1.out.lt
    have HZ1' : Hid (Zr w1 (w.heap.size + 1)) := HZ1.out.zr
    clear HZ1
    have HZ1 := HZ1'
    clear HZ1'
    refine ((CK _).out HB1.out).mono ?_
    rintro e w2 ⟨rfl, hb⟩
    have HB2 : Hid (Below w.heap.size w w2) := HB1.out.trans (hb.mono HB1.out.size)
    have HA2 := hide (HA1.out.below hb)
    have HZ2 := hide (HZ1.out.below hb)
    clear hb z0 z1 z2 z3 z4 z5 z6 z7 z8 z9
    obtain ⟨z0, z1, z2, z3, z4, z5, z6, z7, z8, z9⟩ := HA2.out.at_
    have hs2 : w.heap.size < w2.heap.size := HA2.out.lt
    have zf2 := HA2.out.fz
    go_wp2_with (refine wpList_store_row rfl 28 (.tmp 4) (.tmp 10) rfl (w.heap.size + 1) #[.string ⟨#[]⟩, .int .i64 0, .int .i64 0, .int .i64 0, .int .i64 0, .slice none 0 0, .int .i64 0, .int .i64 0, .int .i64 0, .int .i64 0] rfl rfl 28 #[.string ⟨#[]⟩, .int .i64 0, .int .i64 0, .int .i64 0, .int .i64 0, .slice none 0 0, .int .i64 0, .int .i64 0, .int .i64 0, .int .i64 0] HZ2.out ac_info rfl (by simp [Value.oneCell']) ?_)
    refine bodyPost_ret (v := .tuple #[.agg #[.string ⟨#[]⟩, .int .i64 0, .int .i64 0, .int .i64 0, .int .i64 0, .slice none 0 0, .int .i64 0, .int .i64 0, .int .i64 0, .int .i64 0], .int .i64 21]) ?r ?d ?_
    case r => exact results_cell_tmp' rfl _ _ (w.heap.size + 1) 28 #[.string ⟨#[]⟩, .int .i64 0, .int .i64 0, .int .i64 0, .int .i64 0, .slice none 0 0, .int .i64 0, .int .i64 0, .int .i64 0, .int .i64 0] (0, 0) _ (.int .i64 21) rfl rfl (setRow_heap _ _ _ _ _ _ HZ2.out) Try.underlying28 rfl ac_info
    case d => rfl
    exact mad_none 21 (below_setRow HB2.out (by omega) _)
set_option maxRecDepth 100000 in
set_option maxHeartbeats 2000000 in
theorem thaw_any {w : World} {a : Option Addr} {n c : Nat} {A : Ac} (h : Hs w a n A.hs) (hw : AcW A) : Calls Try.prog 12 #[acval A a n c] w fun e w' => Mad w (thawA A) (thawE A) e w' := by
  have H := hide h
  have CK := fun W => hide (fun hW : Below w.heap.size w W => check_any (c := c) (h.below hW) hw)
  by_cases hr : rightB A = true
  · have e4 : checkE A = 0 := by unfold checkE; rw [if_pos hr]
    rw [e4] at CK
    clear e4
    have eE : thawE A = 0 := by unfold thawE; rw [if_pos hr]
    have eA : thawA A = { A with rd := 0 } := by unfold thawA; rw [if_pos eE]
    rw [eE, eA]
    clear eE eA hr h hw
    unfold acval at CK ⊢
    go_enter Try.func12, Try.ntmps12
    go_wp2_with fail
    obtain ⟨w1, ew, hb1, ha1, hz1⟩ := two_new w A a n c
    rw [← ew]
    have HB1 := hide hb1
    have HA1 := hide ha1
    have HZ1 := hide hz1
    clear hb1 ha1 hz1 ew
    obtain ⟨z0, z1, z2, z3, z4, z5, z6, z7, z8, z9⟩ := HA1.out.at_
    have hs1 : w.heap.size < w1.heap.size := HA1.out.lt
    have HZ1' : Hid (Zr w1 (w.heap.size + 1)) := HZ1.out.zr
    clear HZ1
    have HZ1 := HZ1'
    clear HZ1'
    refine ((CK _).out HB1.out).mono ?_
    rintro e w2 ⟨rfl, hb⟩
    have HB2 : Hid (Below w.heap.size w w2) := HB1.out.trans (hb.mono HB1.out.size)
    have HA2 := hide (HA1.out.below hb)
    have HZ2 := hide (HZ1.out.below hb)
    clear hb z0 z1 z2 z3 z4 z5 z6 z7 z8 z9
    obtain ⟨z0, z1, z2, z3, z4, z5, z6, z7, z8, z9⟩ := HA2.out.at_
    have hs2 : w.heap.size < w2.heap.size := HA2.out.lt
    have zf2 := HA2.out.fz
    go_wp2_with fail
    refine (own_made (w := w) (A := { A with rd := 0 }) (a := a) (n := n) (c := c) H.out (by repeat (first | with_reducible exact HB2.out | refine b_set ?_)) (by repeat (first | with_reducible exact HZ2.out | refine z_far ?_))).mono ?_
    rintro e w9 ⟨a', c', rfl, h5, hb5, hf5, hc5, hz5⟩
    have H5 := hide h5
    have B5 := hide hb5
    have F5 := hide hf5
    have C5 := hide hc5
    have Z5 := hide hz5
    clear h5 hb5 hf5 hc5 hz5 z0 z1 z2 z3 z4 z5 z6 z7 z8 z9
    go_wp2_with (refine wpList_store_row rfl 28 (.tmp 2) (.tmp 10) rfl (w.heap.size + 1) #[.string A.key, .int .i64 (A.lo), .int .i64 (A.hi), .int .i64 (A.base), .int .i64 (0), (.slice a' n c'), .int .i64 (A.lk.c), .int .i64 (A.lk.s), .int .i64 (A.lk.h), .int .i64 (A.lk.n)] rfl rfl 28 #[.string ⟨#[]⟩, .int .i64 0, .int .i64 0, .int .i64 0, .int .i64 0, .slice none 0 0, .int .i64 0, .int .i64 0, .int .i64 0, .int .i64 0] Z5.out ac_info rfl (by simp [Value.oneCell']) ?_)
    refine bodyPost_ret (v := .tuple #[.agg #[.string A.key, .int .i64 (A.lo), .int .i64 (A.hi), .int .i64 (A.base), .int .i64 (0), (.slice a' n c'), .int .i64 (A.lk.c), .int .i64 (A.lk.s), .int .i64 (A.lk.h), .int .i64 (A.lk.n)], .int .i64 0]) ?r ?d ?_
    case r => exact results_cell_tmp' rfl _ _ (w.heap.size + 1) 28 #[.string A.key, .int .i64 (A.lo), .int .i64 (A.hi), .int .i64 (A.base), .int .i64 (0), (.slice a' n c'), .int .i64 (A.lk.c), .int .i64 (A.lk.s), .int .i64 (A.lk.h), .int .i64 (A.lk.n)] (0, 0) _ (.int .i64 0) rfl rfl (setRow_heap _ _ _ _ _ _ Z5.out) Try.underlying28 rfl ac_info
    case d => rfl
    exact ⟨a', n, c', rfl, H5.out _, below_setRow B5.out (by omega) _, F5.out, C5.out⟩
  · have e4 : checkE A = 21 := by unfold checkE; rw [if_neg hr]
    rw [e4] at CK
    clear e4
    have eE : thawE A = 21 := by unfold thawE; rw [if_neg hr]
    have eA : thawA A = ac0 := by unfold thawA; rw [eE]; rfl
    rw [eE, eA]
    clear eE eA
    clear hr h hw
    unfold acval at *
    go_enter Try.func12, Try.ntmps12
    go_wp2_with fail
    obtain ⟨w1, ew, hb1, ha1, hz1⟩ := two_new w A a n c
    rw [← ew]
    have HB1 := hide hb1
    have HA1 := hide ha1
    have HZ1 := hide hz1
    clear hb1 ha1 hz1 ew
    obtain ⟨z0, z1, z2, z3, z4, z5, z6, z7, z8, z9⟩ := HA1.out.at_
    have hs1 : w.heap.size < w1.heap.size := HA1.out.lt
    have HZ1' : Hid (Zr w1 (w.heap.size + 1)) := HZ1.out.zr
    clear HZ1
    have HZ1 := HZ1'
    clear HZ1'
    refine ((CK _).out HB1.out).mono ?_
    rintro e w2 ⟨rfl, hb⟩
    have HB2 : Hid (Below w.heap.size w w2) := HB1.out.trans (hb.mono HB1.out.size)
    have HA2 := hide (HA1.out.below hb)
    have HZ2 := hide (HZ1.out.below hb)
    clear hb z0 z1 z2 z3 z4 z5 z6 z7 z8 z9
    obtain ⟨z0, z1, z2, z3, z4, z5, z6, z7, z8, z9⟩ := HA2.out.at_
    have hs2 : w.heap.size < w2.heap.size := HA2.out.lt
    have zf2 := HA2.out.fz
    go_wp2_with (refine wpList_store_row rfl 28 (.tmp 2) (.tmp 7) rfl (w.heap.size + 1) #[.string ⟨#[]⟩, .int .i64 0, .int .i64 0, .int .i64 0, .int .i64 0, .slice none 0 0, .int .i64 0, .int .i64 0, .int .i64 0, .int .i64 0] rfl rfl 28 #[.string ⟨#[]⟩, .int .i64 0, .int .i64 0, .int .i64 0, .int .i64 0, .slice none 0 0, .int .i64 0, .int .i64 0, .int .i64 0, .int .i64 0] HZ2.out ac_info rfl (by simp [Value.oneCell']) ?_)
    refine bodyPost_ret (v := .tuple #[.agg #[.string ⟨#[]⟩, .int .i64 0, .int .i64 0, .int .i64 0, .int .i64 0, .slice none 0 0, .int .i64 0, .int .i64 0, .int .i64 0, .int .i64 0], .int .i64 21]) ?r ?d ?_
    case r => exact results_cell_tmp' rfl _ _ (w.heap.size + 1) 28 #[.string ⟨#[]⟩, .int .i64 0, .int .i64 0, .int .i64 0, .int .i64 0, .slice none 0 0, .int .i64 0, .int .i64 0, .int .i64 0, .int .i64 0] (0, 0) _ (.int .i64 21) rfl rfl (setRow_heap _ _ _ _ _ _ HZ2.out) Try.underlying28 rfl ac_info
    case d => rfl
    exact mad_none 21 (below_setRow HB2.out (by omega) _)
end Go.Proofs.Ytjcbhgkfbilifab

namespace Go.Proofs.Ytjcbhgkfbilifab
open Go.ChangeShapes Go.WideShapes Go.ChangeAt Go.RowKit Ao
set_option linter.unusedVariables false

end Go.Proofs.Ytjcbhgkfbilifab

namespace Go.Proofs.Ytjcbhgkfbilifab
open Go.ChangeShapes Go.WideShapes Go.ChangeAt Go.RowKit Ao
set_option linter.unusedVariables false

end Go.Proofs.Ytjcbhgkfbilifab
