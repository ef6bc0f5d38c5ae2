/- What Freeze, Thaw and Free answer: the landed code. Condition: the account can be read. What Bounds answers: the landed code. Condition: the account can be read. What Take answers: the landed code. Condition: the account can be read. -/
import Derived.Test.YtjcbhgkfbilifaaFAcoMade
import Derived.Laws.Tables
namespace Go.Proofs.Ytjcbhgkfbilifaa
open Go.ChangeShapes Go.WideShapes Go.ChangeAt Go.RowKit Ao
set_option linter.unusedVariables false

set_option maxRecDepth 100000 in
set_option maxHeartbeats 2000000 in
theorem freeze_any {w : World} {a : Option Addr} {n c : Nat} {A : Ac} {v : Int} (h : Hs w a n A.hs) (hw : AcW A) : Calls Try.prog 40 #[acval A a n c, .int .i64 v] w fun e w' => Mad w (freezeA A v) (freezeE A v) e w' := by
  have H := hide h
  have CK := fun W => hide (fun hW : Below w.heap.size w W => check_any (c := c) (h.below hW) hw)
  have LC := fun W => hide (locked_any A a n c W)
  have NU := fun W => hide (number_any v W)
  by_cases hr : rightB A = true
  · have e4 : checkE A = 0 := by unfold checkE; rw [if_pos hr]
    rw [e4] at CK
    clear e4
    by_cases hn : numB v = true
    · rw [hn] at NU
      have eE : freezeE A v = 0 := by unfold freezeE; rw [if_pos hr, if_pos hn]
      have eA : freezeA A v = if A.rd = 0 then { A with rd := v } else A := by unfold freezeA; rw [if_pos eE]
      rw [eE, eA]
      clear eE eA hn hr h hw LC
      by_cases h0 : A.rd = 0
      · rw [if_pos h0]
        obtain ⟨ak, alo, ahi, ab, ard, ahs, alk⟩ := A
        obtain rfl : ard = 0 := h0
        unfold acval at CK ⊢
        go_enter Try.func40, Try.ntmps40
        go_wp2_with fail
        obtain ⟨w1, ew, hb1, ha1, hz1⟩ := two_new w ⟨ak, alo, ahi, ab, 0, ahs, alk⟩ a n c
        rw [← ew]
        have HB1 := hide hb1
        have HA1 := hide ha1
        have HZ1 := hide hz1
        clear hb1 ha1 hz1 ew
        obtain ⟨z0, z1, z2, z3, z4, z5, z6, z7, z8, z9⟩ := HA1.out.at_
        have hs1 : w.heap.size < w1.heap.size := HA1.out.lt
        have HZ1' : Hid (Zr w1 (w.heap.size + 1)) := HZ1.out.zr
        clear HZ1
        have HZ1 := HZ1'
        clear HZ1'
        refine ((CK _).out HB1.out).mono ?_
        rintro e w2 ⟨rfl, hb⟩
        have HB2 : Hid (Below w.heap.size w w2) := HB1.out.trans (hb.mono HB1.out.size)
        have HA2 := hide (HA1.out.below hb)
        have HZ2 := hide (HZ1.out.below hb)
        clear hb z0 z1 z2 z3 z4 z5 z6 z7 z8 z9
        obtain ⟨z0, z1, z2, z3, z4, z5, z6, z7, z8, z9⟩ := HA2.out.at_
        have hs2 : w.heap.size < w2.heap.size := HA2.out.lt
        have zf2 := HA2.out.fz
        go_wp2_with (go_at_call 93; refine ((NU _).out).mono ?_; rintro e w' ⟨rfl, hw⟩; rw [hw]; clear hw)
        refine (own_made (w := w) (A := ⟨ak, alo, ahi, ab, v, ahs, alk⟩) (a := a) (n := n) (c := c) H.out (by repeat (first | with_reducible exact HB2.out | refine b_set ?_)) (by repeat (first | with_reducible exact HZ2.out | refine z_far ?_))).mono ?_
        rintro e w9 ⟨a', c', rfl, h5, hb5, hf5, hc5, hz5⟩
        have H5 := hide h5
        have B5 := hide hb5
        have F5 := hide hf5
        have C5 := hide hc5
        have Z5 := hide hz5
        clear h5 hb5 hf5 hc5 hz5 z0 z1 z2 z3 z4 z5 z6 z7 z8 z9
        go_wp2_with (refine wpList_store_row rfl 28 (.tmp 4) (.tmp 22) rfl (w.heap.size + 1) #[.string ak, .int .i64 (alo), .int .i64 (ahi), .int .i64 (ab), .int .i64 (v), (.slice a' n c'), .int .i64 (alk.c), .int .i64 (alk.s), .int .i64 (alk.h), .int .i64 (alk.n)] rfl rfl 28 #[.string ⟨#[]⟩, .int .i64 0, .int .i64 0, .int .i64 0, .int .i64 0, .slice none 0 0, .int .i64 0, .int .i64 0, .int .i64 0, .int .i64 0] Z5.out ac_info rfl (by simp [Value.oneCell']) ?_)
        refine bodyPost_ret (v := .tuple #[.agg #[.string ak, .int .i64 (alo), .int .i64 (ahi), .int .i64 (ab), .int .i64 (v), (.slice a' n c'), .int .i64 (alk.c), .int .i64 (alk.s), .int .i64 (alk.h), .int .i64 (alk.n)], .int .i64 0]) ?r ?d ?_
        case r => exact results_cell_tmp' rfl _ _ (w.heap.size + 1) 28 #[.string ak, .int .i64 (alo), .int .i64 (ahi), .int .i64 (ab), .int .i64 (v), (.slice a' n c'), .int .i64 (alk.c), .int .i64 (alk.s), .int .i64 (alk.h), .int .i64 (alk.n)] (0, 0) _ (.int .i64 0) rfl rfl (setRow_heap _ _ _ _ _ _ Z5.out) Try.underlying28 rfl ac_info
        case d => rfl
        exact ⟨a', n, c', rfl, H5.out _, below_setRow B5.out (by omega) _, F5.out, C5.out⟩
      · rw [if_neg h0]
        unfold acval at CK ⊢
        go_enter Try.func40, Try.ntmps40
        go_wp2_with fail
        obtain ⟨w1, ew, hb1, ha1, hz1⟩ := two_new w A a n c
        rw [← ew]
        have HB1 := hide hb1
        have HA1 := hide ha1
        have HZ1 := hide hz1
        clear hb1 ha1 hz1 ew
        obtain ⟨z0, z1, z2, z3, z4, z5, z6, z7, z8, z9⟩ := HA1.out.at_
        have hs1 : w.heap.size < w1.heap.size := HA1.out.lt
        have HZ1' : Hid (Zr w1 (w.heap.size + 1)) := HZ1.out.zr
        clear HZ1
        have HZ1 := HZ1'
        clear HZ1'
        refine ((CK _).out HB1.out).mono ?_
        rintro e w2 ⟨rfl, hb⟩
        have HB2 : Hid (Below w.heap.size w w2) := HB1.out.trans (hb.mono HB1.out.size)
        have HA2 := hide (HA1.out.below hb)
        have HZ2 := hide (HZ1.out.below hb)
        clear hb z0 z1 z2 z3 z4 z5 z6 z7 z8 z9
        obtain ⟨z0, z1, z2, z3, z4, z5, z6, z7, z8, z9⟩ := HA2.out.at_
        have hs2 : w.heap.size < w2.heap.size := HA2.out.lt
        have zf2 := HA2.out.fz
        go_wp2_with (go_at_call 93; refine ((NU _).out).mono ?_; rintro e w' ⟨rfl, hw⟩; rw [hw]; clear hw)
        refine (own_made (w := w) (A := A) (a := a) (n := n) (c := c) H.out (by repeat (first | with_reducible exact HB2.out | refine b_set ?_)) (by repeat (first | with_reducible exact HZ2.out | refine z_far ?_))).mono ?_
        rintro e w9 ⟨a', c', rfl, h5, hb5, hf5, hc5, hz5⟩
        have H5 := hide h5
        have B5 := hide hb5
        have F5 := hide hf5
        have C5 := hide hc5
        have Z5 := hide hz5
        clear h5 hb5 hf5 hc5 hz5 z0 z1 z2 z3 z4 z5 z6 z7 z8 z9
        go_wp2_with (refine wpList_store_row rfl 28 (.tmp 4) (.tmp 22) rfl (w.heap.size + 1) #[.string A.key, .int .i64 (A.lo), .int .i64 (A.hi), .int .i64 (A.base), .int .i64 (A.rd), (.slice a' n c'), .int .i64 (A.lk.c), .int .i64 (A.lk.s), .int .i64 (A.lk.h), .int .i64 (A.lk.n)] rfl rfl 28 #[.string ⟨#[]⟩, .int .i64 0, .int .i64 0, .int .i64 0, .int .i64 0, .slice none 0 0, .int .i64 0, .int .i64 0, .int .i64 0, .int .i64 0] Z5.out ac_info rfl (by simp [Value.oneCell']) ?_)
        refine bodyPost_ret (v := .tuple #[.agg #[.string A.key, .int .i64 (A.lo), .int .i64 (A.hi), .int .i64 (A.base), .int .i64 (A.rd), (.slice a' n c'), .int .i64 (A.lk.c), .int .i64 (A.lk.s), .int .i64 (A.lk.h), .int .i64 (A.lk.n)], .int .i64 0]) ?r ?d ?_
        case r => exact results_cell_tmp' rfl _ _ (w.heap.size + 1) 28 #[.string A.key, .int .i64 (A.lo), .int .i64 (A.hi), .int .i64 (A.base), .int .i64 (A.rd), (.slice a' n c'), .int .i64 (A.lk.c), .int .i64 (A.lk.s), .int .i64 (A.lk.h), .int .i64 (A.lk.n)] (0, 0) _ (.int .i64 0) rfl rfl (setRow_heap _ _ _ _ _ _ Z5.out) Try.underlying28 rfl ac_info
        case d => rfl
        exact ⟨a', n, c', rfl, H5.out _, below_setRow B5.out (by omega) _, F5.out, C5.out⟩
    · have hn2 : numB v = false := by cases e : numB v <;> simp_all
      rw [hn2] at NU
      have eE : freezeE A v = 1 := by unfold freezeE; rw [if_pos hr, if_neg hn]
      have eA : freezeA A v = ac0 := by unfold freezeA; rw [eE]; rfl
      rw [eE, eA]
      clear eE eA
      clear hn hn2 hr h hw LC
      unfold acval at *
      go_enter Try.func40, Try.ntmps40
      go_wp2_with fail
      obtain ⟨w1, ew, hb1, ha1, hz1⟩ := two_new w A a n c
      rw [← ew]
      have HB1 := hide hb1
      have HA1 := hide ha1
      have HZ1 := hide hz1
      clear hb1 ha1 hz1 ew
      obtain ⟨z0, z1, z2, z3, z4, z5, z6, z7, z8, z9⟩ := HA1.out.at_
      have hs1 : w.heap.size < w1.heap.size := HA1.out.lt
      have HZ1' : Hid (Zr w1 (w.heap.size + 1)) := HZ1.out.zr
      clear HZ1
      have HZ1 := HZ1'
      clear HZ1'
      refine ((CK _).out HB1.out).mono ?_
      rintro e w2 ⟨rfl, hb⟩
      have HB2 : Hid (Below w.heap.size w w2) := HB1.out.trans (hb.mono HB1.out.size)
      have HA2 := hide (HA1.out.below hb)
      have HZ2 := hide (HZ1.out.below hb)
      clear hb z0 z1 z2 z3 z4 z5 z6 z7 z8 z9
      obtain ⟨z0, z1, z2, z3, z4, z5, z6, z7, z8, z9⟩ := HA2.out.at_
      have hs2 : w.heap.size < w2.heap.size := HA2.out.lt
      have zf2 := HA2.out.fz
      go_wp2_with (first | (go_at_call 93; refine ((NU _).out).mono ?_; rintro e w' ⟨rfl, hw⟩; rw [hw]; clear hw) | (refine wpList_store_row rfl 28 (.tmp 4) (.tmp 15) rfl (w.heap.size + 1) #[.string ⟨#[]⟩, .int .i64 0, .int .i64 0, .int .i64 0, .int .i64 0, .slice none 0 0, .int .i64 0, .int .i64 0, .int .i64 0, .int .i64 0] rfl rfl 28 #[.string ⟨#[]⟩, .int .i64 0, .int .i64 0, .int .i64 0, .int .i64 0, .slice none 0 0, .int .i64 0, .int .i64 0, .int .i64 0, .int .i64 0] HZ2.out ac_info rfl (by simp [Value.oneCell']) ?_))
      refine bodyPost_ret (v := .tuple #[.agg #[.string ⟨#[]⟩, .int .i64 0, .int .i64 0, .int .i64 0, .int .i64 0, .slice none 0 0, .int .i64 0, .int .i64 0, .int .i64 0, .int .i64 0], .int .i64 1]) ?r ?d ?_
      case r => exact results_cell_tmp' rfl _ _ (w.heap.size + 1) 28 #[.string ⟨#[]⟩, .int .i64 0, .int .i64 0, .int .i64 0, .int .i64 0, .slice none 0 0, .int .i64 0, .int .i64 0, .int .i64 0, .int .i64 0] (0, 0) _ (.int .i64 1) rfl rfl (setRow_heap _ _ _ _ _ _ HZ2.out) Try.underlying28 rfl ac_info
      case d => rfl
      exact mad_none 1 (below_setRow HB2.out (by omega) _)
  · have e4 : checkE A = 21 := by unfold checkE; rw [if_neg hr]
    rw [e4] at CK
    clear e4
    have eE : freezeE A v = 21 := by unfold freezeE; rw [if_neg hr]
    have eA : freezeA A v = ac0 := by unfold freezeA; rw [eE]; rfl
    rw [eE, eA]
    clear eE eA
    clear hr h hw LC NU
    unfold acval at *
    go_enter Try.func40, Try.ntmps40
    go_wp2_with fail
    obtain ⟨w1, ew, hb1, ha1, hz1⟩ := two_new w A a n c
    rw [← ew]
    have HB1 := hide hb1
    have HA1 := hide ha1
    have HZ1 := hide hz1
    clear hb1 ha1 hz1 ew
    obtain ⟨z0, z1, z2, z3, z4, z5, z6, z7, z8, z9⟩ := HA1.out.at_
    have hs1 : w.heap.size < w1.heap.size := HA1.out.lt
    have HZ1' : Hid (Zr w1 (w.heap.size + 1)) := HZ1.out.zr
    clear HZ1
    have HZ1 := HZ1'
    clear HZ1'
    refine ((CK _).out HB1.out).mono ?_
    rintro e w2 ⟨rfl, hb⟩
    have HB2 : Hid (Below w.heap.size w w2) := HB1.out.trans (hb.mono HB1.out.size)
    have HA2 := hide (HA1.out.below hb)
    have HZ2 := hide (HZ1.out.below hb)
    clear hb z0 z1 z2 z3 z4 z5 z6 z7 z8 z9
    obtain ⟨z0, z1, z2, z3, z4, z5, z6, z7, z8, z9⟩ := HA2.out.at_
    have hs2 : w.heap.size < w2.heap.size := HA2.out.lt
    have zf2 := HA2.out.fz
    go_wp2_with (refine wpList_store_row rfl 28 (.tmp 4) (.tmp 10) rfl (w.heap.size + 1) #[.string ⟨#[]⟩, .int .i64 0, .int .i64 0, .int .i64 0, .int .i64 0, .slice none 0 0, .int .i64 0, .int .i64 0, .int .i64 0, .int .i64 0] rfl rfl 28 #[.string ⟨#[]⟩, .int .i64 0, .int .i64 0, .int .i64 0, .int .i64 0, .slice none 0 0, .int .i64 0, .int .i64 0, .int .i64 0, .int .i64 0] HZ2.out ac_info rfl (by simp [Value.oneCell']) ?_)
    refine bodyPost_ret (v := .tuple #[.agg #[.string ⟨#[]⟩, .int .i64 0, .int .i64 0, .int .i64 0, .int .i64 0, .slice none 0 0, .int .i64 0, .int .i64 0, .int .i64 0, .int .i64 0], .int .i64 21]) ?r ?d ?_
    case r => exact results_cell_tmp' rfl _ _ (w.heap.size + 1) 28 #[.string ⟨#[]⟩, .int .i64 0, .int .i64 0, .int .i64 0, .int .i64 0, .slice none 0 0, .int .i64 0, .int .i64 0, .int .i64 0, .int .i64 0] (0, 0) _ (.int .i64 21) rfl rfl (setRow_heap _ _ _ _ _ _ HZ2.out) Try.underlying28 rfl ac_info
    case d => rfl
    exact mad_none 21 (below_setRow HB2.out (by omega) _)
set_option maxRecDepth 100000 in
set_option maxHeartbeats 2000000 in
theorem thaw_any {w : World} {a : Option Addr} {n c : Nat} {A : Ac} (h : Hs w a n A.hs) (hw : AcW A) : Calls Try.prog 41 #[acval A a n c] w fun e w' => Mad w (thawA A) (thawE A) e w' := by
  have H := hide h
  have CK := fun W => hide (fun hW : Below w.heap.size w W => check_any (c := c) (h.below hW) hw)
  have LC := fun W => hide (locked_any A a n c W)
  by_cases hr : rightB A = true
  · have e4 : checkE A = 0 := by unfold checkE; rw [if_pos hr]
    rw [e4] at CK
    clear e4
    have eE : thawE A = 0 := by unfold thawE; rw [if_pos hr]
    have eA : thawA A = { A with rd := 0 } := by unfold thawA; rw [if_pos eE]
    rw [eE, eA]
    clear eE eA hr h hw LC
    unfold acval at CK ⊢
    go_enter Try.func41, Try.ntmps41
    go_wp2_with fail
    obtain ⟨w1, ew, hb1, ha1, hz1⟩ := two_new w A a n c
    rw [← ew]
    have HB1 := hide hb1
    have HA1 := hide ha1
    have HZ1 := hide hz1
    clear hb1 ha1 hz1 ew
    obtain ⟨z0, z1, z2, z3, z4, z5, z6, z7, z8, z9⟩ := HA1.out.at_
    have hs1 : w.heap.size < w1.heap.size := HA1.out.lt
    have HZ1' : Hid (Zr w1 (w.heap.size + 1)) := HZ1.out.zr
    clear HZ1
    have HZ1 := HZ1'
    clear HZ1'
    refine ((CK _).out HB1.out).mono ?_
    rintro e w2 ⟨rfl, hb⟩
    have HB2 : Hid (Below w.heap.size w w2) := HB1.out.trans (hb.mono HB1.out.size)
    have HA2 := hide (HA1.out.below hb)
    have HZ2 := hide (HZ1.out.below hb)
    clear hb z0 z1 z2 z3 z4 z5 z6 z7 z8 z9
    obtain ⟨z0, z1, z2, z3, z4, z5, z6, z7, z8, z9⟩ := HA2.out.at_
    have hs2 : w.heap.size < w2.heap.size := HA2.out.lt
    have zf2 := HA2.out.fz
    go_wp2_with fail
    refine (own_made (w := w) (A := { A with rd := 0 }) (a := a) (n := n) (c := c) H.out (by repeat (first | with_reducible exact HB2.out | refine b_set ?_)) (by repeat (first | with_reducible exact HZ2.out | refine z_far ?_))).mono ?_
    rintro e w9 ⟨a', c', rfl, h5, hb5, hf5, hc5, hz5⟩
    have H5 := hide h5
    have B5 := hide hb5
    have F5 := hide hf5
    have C5 := hide hc5
    have Z5 := hide hz5
    clear h5 hb5 hf5 hc5 hz5 z0 z1 z2 z3 z4 z5 z6 z7 z8 z9
    go_wp2_with (refine wpList_store_row rfl 28 (.tmp 2) (.tmp 10) rfl (w.heap.size + 1) #[.string A.key, .int .i64 (A.lo), .int .i64 (A.hi), .int .i64 (A.base), .int .i64 (0), (.slice a' n c'), .int .i64 (A.lk.c), .int .i64 (A.lk.s), .int .i64 (A.lk.h), .int .i64 (A.lk.n)] rfl rfl 28 #[.string ⟨#[]⟩, .int .i64 0, .int .i64 0, .int .i64 0, .int .i64 0, .slice none 0 0, .int .i64 0, .int .i64 0, .int .i64 0, .int .i64 0] Z5.out ac_info rfl (by simp [Value.oneCell']) ?_)
    refine bodyPost_ret (v := .tuple #[.agg #[.string A.key, .int .i64 (A.lo), .int .i64 (A.hi), .int .i64 (A.base), .int .i64 (0), (.slice a' n c'), .int .i64 (A.lk.c), .int .i64 (A.lk.s), .int .i64 (A.lk.h), .int .i64 (A.lk.n)], .int .i64 0]) ?r ?d ?_
    case r => exact results_cell_tmp' rfl _ _ (w.heap.size + 1) 28 #[.string A.key, .int .i64 (A.lo), .int .i64 (A.hi), .int .i64 (A.base), .int .i64 (0), (.slice a' n c'), .int .i64 (A.lk.c), .int .i64 (A.lk.s), .int .i64 (A.lk.h), .int .i64 (A.lk.n)] (0, 0) _ (.int .i64 0) rfl rfl (setRow_heap _ _ _ _ _ _ Z5.out) Try.underlying28 rfl ac_info
    case d => rfl
    exact ⟨a', n, c', rfl, H5.out _, below_setRow B5.out (by omega) _, F5.out, C5.out⟩
  · have e4 : checkE A = 21 := by unfold checkE; rw [if_neg hr]
    rw [e4] at CK
    clear e4
    have eE : thawE A = 21 := by unfold thawE; rw [if_neg hr]
    have eA : thawA A = ac0 := by unfold thawA; rw [eE]; rfl
    rw [eE, eA]
    clear eE eA
    clear hr h hw LC
    unfold acval at *
    go_enter Try.func41, Try.ntmps41
    go_wp2_with fail
    obtain ⟨w1, ew, hb1, ha1, hz1⟩ := two_new w A a n c
    rw [← ew]
    have HB1 := hide hb1
    have HA1 := hide ha1
    have HZ1 := hide hz1
    clear hb1 ha1 hz1 ew
    obtain ⟨z0, z1, z2, z3, z4, z5, z6, z7, z8, z9⟩ := HA1.out.at_
    have hs1 : w.heap.size < w1.heap.size := HA1.out.lt
    have HZ1' : Hid (Zr w1 (w.heap.size + 1)) := HZ1.out.zr
    clear HZ1
    have HZ1 := HZ1'
    clear HZ1'
    refine ((CK _).out HB1.out).mono ?_
    rintro e w2 ⟨rfl, hb⟩
    have HB2 : Hid (Below w.heap.size w w2) := HB1.out.trans (hb.mono HB1.out.size)
    have HA2 := hide (HA1.out.below hb)
    have HZ2 := hide (HZ1.out.below hb)
    clear hb z0 z1 z2 z3 z4 z5 z6 z7 z8 z9
    obtain ⟨z0, z1, z2, z3, z4, z5, z6, z7, z8, z9⟩ := HA2.out.at_
    have hs2 : w.heap.size < w2.heap.size := HA2.out.lt
    have zf2 := HA2.out.fz
    go_wp2_with (refine wpList_store_row rfl 28 (.tmp 2) (.tmp 7) rfl (w.heap.size + 1) #[.string ⟨#[]⟩, .int .i64 0, .int .i64 0, .int .i64 0, .int .i64 0, .slice none 0 0, .int .i64 0, .int .i64 0, .int .i64 0, .int .i64 0] rfl rfl 28 #[.string ⟨#[]⟩, .int .i64 0, .int .i64 0, .int .i64 0, .int .i64 0, .slice none 0 0, .int .i64 0, .int .i64 0, .int .i64 0, .int .i64 0] HZ2.out ac_info rfl (by simp [Value.oneCell']) ?_)
    refine bodyPost_ret (v := .tuple #[.agg #[.string ⟨#[]⟩, .int .i64 0, .int .i64 0, .int .i64 0, .int .i64 0, .slice none 0 0, .int .i64 0, .int .i64 0, .int .i64 0, .int .i64 0], .int .i64 21]) ?r ?d ?_
    case r => exact results_cell_tmp' rfl _ _ (w.heap.size + 1) 28 #[.string ⟨#[]⟩, .int .i64 0, .int .i64 0, .int .i64 0, .int .i64 0, .slice none 0 0, .int .i64 0, .int .i64 0, .int .i64 0, .int .i64 0] (0, 0) _ (.int .i64 21) rfl rfl (setRow_heap _ _ _ _ _ _ HZ2.out) Try.underlying28 rfl ac_info
    case d => rfl
    exact mad_none 21 (below_setRow HB2.out (by omega) _)
set_option maxRecDepth 100000 in
set_option maxHeartbeats 2000000 in
theorem free_any {w : World} {a : Option Addr} {n c : Nat} {A : Ac} {b : Bool} (h : Hs w a n A.hs) (hw : AcW A) : Calls Try.prog 45 #[acval A a n c, .bool b] w fun e w' => Mad w (freeA A b) (freeE A) e w' := by
  have H := hide h
  have CK := fun W => hide (fun hW : Below w.heap.size w W => check_any (c := c) (h.below hW) hw)
  have LC := fun W => hide (locked_any A a n c W)
  by_cases hr : rightB A = true
  · have e4 : checkE A = 0 := by unfold checkE; rw [if_pos hr]
    rw [e4] at CK
    clear e4
    by_cases hl : A.lk.c = 0
    · have e3 : lockedB A = false := by unfold lockedB; rw [hl]; rfl
      rw [e3] at LC
      have eE : freeE A = 60 := by unfold freeE; rw [if_pos hr, if_pos hl]
      have eA : freeA A b = ac0 := by unfold freeA; rw [eE]; rfl
      rw [eE, eA]
      clear e3 eE eA hr h hw hl
      unfold acval at *
      go_enter Try.func45, Try.ntmps45
      go_wp2_with fail
      obtain ⟨w1, ew, hb1, ha1, hz1⟩ := two_new w A a n c
      rw [← ew]
      have HB1 := hide hb1
      have HA1 := hide ha1
      have HZ1 := hide hz1
      clear hb1 ha1 hz1 ew
      obtain ⟨z0, z1, z2, z3, z4, z5, z6, z7, z8, z9⟩ := HA1.out.at_
      have hs1 : w.heap.size < w1.heap.size := HA1.out.lt
      have HZ1' : Hid (Zr w1 (w.heap.size + 1)) := HZ1.out.zr
      clear HZ1
      have HZ1 := HZ1'
      clear HZ1'
      refine ((CK _).out HB1.out).mono ?_
      rintro e w2 ⟨rfl, hb⟩
      have HB2 : Hid (Below w.heap.size w w2) := HB1.out.trans (hb.mono HB1.out.size)
      have HA2 := hide (HA1.out.below hb)
      have HZ2 := hide (HZ1.out.below hb)
      clear hb z0 z1 z2 z3 z4 z5 z6 z7 z8 z9
      obtain ⟨z0, z1, z2, z3, z4, z5, z6, z7, z8, z9⟩ := HA2.out.at_
      have hs2 : w.heap.size < w2.heap.size := HA2.out.lt
      have zf2 := HA2.out.fz
      go_wp2_with fail
      refine ((LC _).out).mono ?_
      rintro e w3 ⟨rfl, hb⟩
      have HB3 : Hid (Below w.heap.size w w3) := HB2.out.trans (hb.mono HB2.out.size)
      have HA3 := hide (HA2.out.below hb)
      have HZ3 := hide (HZ2.out.below hb)
      clear hb z0 z1 z2 z3 z4 z5 z6 z7 z8 z9
      obtain ⟨z0, z1, z2, z3, z4, z5, z6, z7, z8, z9⟩ := HA3.out.at_
      have hs3 : w.heap.size < w3.heap.size := HA3.out.lt
      have zf3 := HA3.out.fz
      go_wp2_with (refine wpList_store_row rfl 28 (.tmp 4) (.tmp 15) rfl (w.heap.size + 1) #[.string ⟨#[]⟩, .int .i64 0, .int .i64 0, .int .i64 0, .int .i64 0, .slice none 0 0, .int .i64 0, .int .i64 0, .int .i64 0, .int .i64 0] rfl rfl 28 #[.string ⟨#[]⟩, .int .i64 0, .int .i64 0, .int .i64 0, .int .i64 0, .slice none 0 0, .int .i64 0, .int .i64 0, .int .i64 0, .int .i64 0] HZ3.out ac_info rfl (by simp [Value.oneCell']) ?_)
      refine bodyPost_ret (v := .tuple #[.agg #[.string ⟨#[]⟩, .int .i64 0, .int .i64 0, .int .i64 0, .int .i64 0, .slice none 0 0, .int .i64 0, .int .i64 0, .int .i64 0, .int .i64 0], .int .i64 60]) ?r ?d ?_
      case r => exact results_cell_tmp' rfl _ _ (w.heap.size + 1) 28 #[.string ⟨#[]⟩, .int .i64 0, .int .i64 0, .int .i64 0, .int .i64 0, .slice none 0 0, .int .i64 0, .int .i64 0, .int .i64 0, .int .i64 0] (0, 0) _ (.int .i64 60) rfl rfl (setRow_heap _ _ _ _ _ _ HZ3.out) Try.underlying28 rfl ac_info
      case d => rfl
      exact mad_none 60 (below_setRow HB3.out (by omega) _)
    · have e3 : lockedB A = true := by unfold lockedB; rw [decide_eq_false hl]; rfl
      rw [e3] at LC
      have eE : freeE A = 0 := by unfold freeE; rw [if_pos hr, if_neg hl]
      have eA : freeA A b = { A with base := if b = true then A.base + A.lk.n else A.base, lk := lk0 } := by unfold freeA; rw [if_pos eE]
      have hR := lk_locked ((right_iff A).1 hr) hl
      have kb : IntKind.i64.wrap (A.base + A.lk.n) = A.base + A.lk.n := by
        have q4 := hw.lo
        have q5 := hw.hi
        rw [IntKind.wrap_i64]; unfold I64 at *; omega
      rw [eE, eA]
      clear e3 eE eA hr h hw hl hR
      unfold acval at CK LC ⊢
      cases b
      · go_enter Try.func45, Try.ntmps45
        go_wp2_with fail
        obtain ⟨w1, ew, hb1, ha1, hz1⟩ := two_new w A a n c
        rw [← ew]
        have HB1 := hide hb1
        have HA1 := hide ha1
        have HZ1 := hide hz1
        clear hb1 ha1 hz1 ew
        obtain ⟨z0, z1, z2, z3, z4, z5, z6, z7, z8, z9⟩ := HA1.out.at_
        have hs1 : w.heap.size < w1.heap.size := HA1.out.lt
        have HZ1' : Hid (Zr w1 (w.heap.size + 1)) := HZ1.out.zr
        clear HZ1
        have HZ1 := HZ1'
        clear HZ1'
        refine ((CK _).out HB1.out).mono ?_
        rintro e w2 ⟨rfl, hb⟩
        have HB2 : Hid (Below w.heap.size w w2) := HB1.out.trans (hb.mono HB1.out.size)
        have HA2 := hide (HA1.out.below hb)
        have HZ2 := hide (HZ1.out.below hb)
        clear hb z0 z1 z2 z3 z4 z5 z6 z7 z8 z9
        obtain ⟨z0, z1, z2, z3, z4, z5, z6, z7, z8, z9⟩ := HA2.out.at_
        have hs2 : w.heap.size < w2.heap.size := HA2.out.lt
        have zf2 := HA2.out.fz
        go_wp2_with fail
        refine ((LC _).out).mono ?_
        rintro e w3 ⟨rfl, hb⟩
        have HB3 : Hid (Below w.heap.size w w3) := HB2.out.trans (hb.mono HB2.out.size)
        have HA3 := hide (HA2.out.below hb)
        have HZ3 := hide (HZ2.out.below hb)
        clear hb z0 z1 z2 z3 z4 z5 z6 z7 z8 z9
        obtain ⟨z0, z1, z2, z3, z4, z5, z6, z7, z8, z9⟩ := HA3.out.at_
        have hs3 : w.heap.size < w3.heap.size := HA3.out.lt
        have zf3 := HA3.out.fz
        go_wp2_with fail
        refine (own_made (w := w) (A := { A with base := A.base, lk := lk0 }) (a := a) (n := n) (c := c) H.out (by repeat (first | with_reducible exact HB3.out | refine b_set ?_)) (by repeat (first | with_reducible exact HZ3.out | refine z_far ?_))).mono ?_
        rintro e w9 ⟨a', c', rfl, h5, hb5, hf5, hc5, hz5⟩
        have H5 := hide h5
        have B5 := hide hb5
        have F5 := hide hf5
        have C5 := hide hc5
        have Z5 := hide hz5
        clear h5 hb5 hf5 hc5 hz5 z0 z1 z2 z3 z4 z5 z6 z7 z8 z9
        go_wp2_with (refine wpList_store_row rfl 28 (.tmp 4) (.tmp 27) rfl (w.heap.size + 1) #[.string A.key, .int .i64 (A.lo), .int .i64 (A.hi), .int .i64 (A.base), .int .i64 (A.rd), (.slice a' n c'), .int .i64 (0), .int .i64 (0), .int .i64 (0), .int .i64 (0)] rfl rfl 28 #[.string ⟨#[]⟩, .int .i64 0, .int .i64 0, .int .i64 0, .int .i64 0, .slice none 0 0, .int .i64 0, .int .i64 0, .int .i64 0, .int .i64 0] Z5.out ac_info rfl (by simp [Value.oneCell']) ?_)
        refine bodyPost_ret (v := .tuple #[.agg #[.string A.key, .int .i64 (A.lo), .int .i64 (A.hi), .int .i64 (A.base), .int .i64 (A.rd), (.slice a' n c'), .int .i64 (0), .int .i64 (0), .int .i64 (0), .int .i64 (0)], .int .i64 0]) ?r ?d ?_
        case r => exact results_cell_tmp' rfl _ _ (w.heap.size + 1) 28 #[.string A.key, .int .i64 (A.lo), .int .i64 (A.hi), .int .i64 (A.base), .int .i64 (A.rd), (.slice a' n c'), .int .i64 (0), .int .i64 (0), .int .i64 (0), .int .i64 (0)] (0, 0) _ (.int .i64 0) rfl rfl (setRow_heap _ _ _ _ _ _ Z5.out) Try.underlying28 rfl ac_info
        case d => rfl
        exact ⟨a', n, c', rfl, H5.out _, below_setRow B5.out (by omega) _, F5.out, C5.out⟩
      · go_enter Try.func45, Try.ntmps45
        go_wp2_with fail
        obtain ⟨w1, ew, hb1, ha1, hz1⟩ := two_new w A a n c
        rw [← ew]
        have HB1 := hide hb1
        have HA1 := hide ha1
        have HZ1 := hide hz1
        clear hb1 ha1 hz1 ew
        obtain ⟨z0, z1, z2, z3, z4, z5, z6, z7, z8, z9⟩ := HA1.out.at_
        have hs1 : w.heap.size < w1.heap.size := HA1.out.lt
        have HZ1' : Hid (Zr w1 (w.heap.size + 1)) := HZ1.out.zr
        clear HZ1
        have HZ1 := HZ1'
        clear HZ1'
        refine ((CK _).out HB1.out).mono ?_
        rintro e w2 ⟨rfl, hb⟩
        have HB2 : Hid (Below w.heap.size w w2) := HB1.out.trans (hb.mono HB1.out.size)
        have HA2 := hide (HA1.out.below hb)
        have HZ2 := hide (HZ1.out.below hb)
        clear hb z0 z1 z2 z3 z4 z5 z6 z7 z8 z9
        obtain ⟨z0, z1, z2, z3, z4, z5, z6, z7, z8, z9⟩ := HA2.out.at_
        have hs2 : w.heap.size < w2.heap.size := HA2.out.lt
        have zf2 := HA2.out.fz
        go_wp2_with fail
        refine ((LC _).out).mono ?_
        rintro e w3 ⟨rfl, hb⟩
        have HB3 : Hid (Below w.heap.size w w3) := HB2.out.trans (hb.mono HB2.out.size)
        have HA3 := hide (HA2.out.below hb)
        have HZ3 := hide (HZ2.out.below hb)
        clear hb z0 z1 z2 z3 z4 z5 z6 z7 z8 z9
        obtain ⟨z0, z1, z2, z3, z4, z5, z6, z7, z8, z9⟩ := HA3.out.at_
        have hs3 : w.heap.size < w3.heap.size := HA3.out.lt
        have zf3 := HA3.out.fz
        go_wp2_with fail
        refine (own_made (w := w) (A := { A with base := A.base + A.lk.n, lk := lk0 }) (a := a) (n := n) (c := c) H.out (by repeat (first | with_reducible exact HB3.out | refine b_set ?_)) (by repeat (first | with_reducible exact HZ3.out | refine z_far ?_))).mono ?_
        rintro e w9 ⟨a', c', rfl, h5, hb5, hf5, hc5, hz5⟩
        have H5 := hide h5
        have B5 := hide hb5
        have F5 := hide hf5
        have C5 := hide hc5
        have Z5 := hide hz5
        clear h5 hb5 hf5 hc5 hz5 z0 z1 z2 z3 z4 z5 z6 z7 z8 z9
        go_wp2_with (refine wpList_store_row rfl 28 (.tmp 4) (.tmp 27) rfl (w.heap.size + 1) #[.string A.key, .int .i64 (A.lo), .int .i64 (A.hi), .int .i64 (A.base + A.lk.n), .int .i64 (A.rd), (.slice a' n c'), .int .i64 (0), .int .i64 (0), .int .i64 (0), .int .i64 (0)] rfl rfl 28 #[.string ⟨#[]⟩, .int .i64 0, .int .i64 0, .int .i64 0, .int .i64 0, .slice none 0 0, .int .i64 0, .int .i64 0, .int .i64 0, .int .i64 0] Z5.out ac_info rfl (by simp [Value.oneCell']) ?_)
        refine bodyPost_ret (v := .tuple #[.agg #[.string A.key, .int .i64 (A.lo), .int .i64 (A.hi), .int .i64 (A.base + A.lk.n), .int .i64 (A.rd), (.slice a' n c'), .int .i64 (0), .int .i64 (0), .int .i64 (0), .int .i64 (0)], .int .i64 0]) ?r ?d ?_
        case r => exact results_cell_tmp' rfl _ _ (w.heap.size + 1) 28 #[.string A.key, .int .i64 (A.lo), .int .i64 (A.hi), .int .i64 (A.base + A.lk.n), .int .i64 (A.rd), (.slice a' n c'), .int .i64 (0), .int .i64 (0), .int .i64 (0), .int .i64 (0)] (0, 0) _ (.int .i64 0) rfl rfl (setRow_heap _ _ _ _ _ _ Z5.out) Try.underlying28 rfl ac_info
        case d => rfl
        exact ⟨a', n, c', rfl, H5.out _, below_setRow B5.out (by omega) _, F5.out, C5.out⟩
  · have e4 : checkE A = 21 := by unfold checkE; rw [if_neg hr]
    rw [e4] at CK
    have eE : freeE A = 21 := by unfold freeE; rw [if_neg hr]
    have eA : freeA A b = ac0 := by unfold freeA; rw [eE]; rfl
    rw [eE, eA]
    clear e4 eE eA hr h hw LC
    unfold acval at *
    go_enter Try.func45, Try.ntmps45
    go_wp2_with fail
    obtain ⟨w1, ew, hb1, ha1, hz1⟩ := two_new w A a n c
    rw [← ew]
    have HB1 := hide hb1
    have HA1 := hide ha1
    have HZ1 := hide hz1
    clear hb1 ha1 hz1 ew
    obtain ⟨z0, z1, z2, z3, z4, z5, z6, z7, z8, z9⟩ := HA1.out.at_
    have hs1 : w.heap.size < w1.heap.size := HA1.out.lt
    have HZ1' : Hid (Zr w1 (w.heap.size + 1)) := HZ1.out.zr
    clear HZ1
    have HZ1 := HZ1'
    clear HZ1'
    refine ((CK _).out HB1.out).mono ?_
    rintro e w2 ⟨rfl, hb⟩
    have HB2 : Hid (Below w.heap.size w w2) := HB1.out.trans (hb.mono HB1.out.size)
    have HA2 := hide (HA1.out.below hb)
    have HZ2 := hide (HZ1.out.below hb)
    clear hb z0 z1 z2 z3 z4 z5 z6 z7 z8 z9
    obtain ⟨z0, z1, z2, z3, z4, z5, z6, z7, z8, z9⟩ := HA2.out.at_
    have hs2 : w.heap.size < w2.heap.size := HA2.out.lt
    have zf2 := HA2.out.fz
    go_wp2_with (refine wpList_store_row rfl 28 (.tmp 4) (.tmp 10) rfl (w.heap.size + 1) #[.string ⟨#[]⟩, .int .i64 0, .int .i64 0, .int .i64 0, .int .i64 0, .slice none 0 0, .int .i64 0, .int .i64 0, .int .i64 0, .int .i64 0] rfl rfl 28 #[.string ⟨#[]⟩, .int .i64 0, .int .i64 0, .int .i64 0, .int .i64 0, .slice none 0 0, .int .i64 0, .int .i64 0, .int .i64 0, .int .i64 0] HZ2.out ac_info rfl (by simp [Value.oneCell']) ?_)
    refine bodyPost_ret (v := .tuple #[.agg #[.string ⟨#[]⟩, .int .i64 0, .int .i64 0, .int .i64 0, .int .i64 0, .slice none 0 0, .int .i64 0, .int .i64 0, .int .i64 0, .int .i64 0], .int .i64 21]) ?r ?d ?_
    case r => exact results_cell_tmp' rfl _ _ (w.heap.size + 1) 28 #[.string ⟨#[]⟩, .int .i64 0, .int .i64 0, .int .i64 0, .int .i64 0, .slice none 0 0, .int .i64 0, .int .i64 0, .int .i64 0, .int .i64 0] (0, 0) _ (.int .i64 21) rfl rfl (setRow_heap _ _ _ _ _ _ HZ2.out) Try.underlying28 rfl ac_info
    case d => rfl
    exact mad_none 21 (below_setRow HB2.out (by omega) _)
end Go.Proofs.Ytjcbhgkfbilifaa

namespace Go.Proofs.Ytjcbhgkfbilifaa
open Go.ChangeShapes Go.WideShapes Go.ChangeAt Go.RowKit Ao
set_option linter.unusedVariables false

set_option maxRecDepth 100000 in
set_option maxHeartbeats 2000000 in
theorem bounds_any {w : World} {a : Option Addr} {n c : Nat} {A : Ac} {lo hi : Int} (h : Hs w a n A.hs) (hw : AcW A) : Calls Try.prog 43 #[acval A a n c, sval lo hi] w fun e w' => Mad w (boundsA A lo hi) (boundsE A lo hi) e w' := by
  have H := hide h
  have CK := fun W => hide (fun hW : Below w.heap.size w W => check_any (c := c) (h.below hW) hw)
  have hl := h.len
  have hrm := h.room
  have KN := fun W => hide (known_any (a := a) c W hl (by omega))
  have HS := fun W => hide (has_b lo hi A.base W)
  have tb := totalB_eq A
  by_cases hr : rightB A = true
  · have e4 : checkE A = 0 := by unfold checkE; rw [if_pos hr]
    rw [e4] at CK
    rw [hr, Bool.true_and] at tb
    clear e4
    cases hk : knownB A
    · rw [hk] at KN tb
      have eE : boundsE A lo hi = 152 := by unfold boundsE; rw [if_pos hr, tb]; rfl
      have eA : boundsA A lo hi = ac0 := by unfold boundsA; rw [eE]; rfl
      rw [eE, eA]
      clear eE eA
      clear hr hk h hw tb hl hrm HS
      unfold acval sval at *
      go_enter Try.func43, Try.ntmps43
      go_wp2_with fail
      obtain ⟨w1, ew, hb1, ha1, hx1, hz1⟩ := span_new w A a n c lo hi
      rw [← ew]
      have HB1 := hide hb1
      have HA1 := hide ha1
      have HX1 := hide hx1
      have HZ1 := hide hz1
      clear hb1 ha1 hx1 hz1 ew
      obtain ⟨z0, z1, z2, z3, z4, z5, z6, z7, z8, z9⟩ := HA1.out.at_
      obtain ⟨s0, s1⟩ := HX1.out.at_
      have hs1 : w.heap.size < w1.heap.size := HA1.out.lt
      have hx1 : w.heap.size + 1 < w1.heap.size := HX1.out.lt
      refine ((CK _).out HB1.out).mono ?_
      rintro e w2 ⟨rfl, hb⟩
      have HB2 : Hid (Below w.heap.size w w2) := HB1.out.trans (hb.mono HB1.out.size)
      have HA2 := hide (HA1.out.below hb)
      have HZ2 := hide (HZ1.out.below hb)
      have HX2 := hide (HX1.out.below hb)
      clear hb z0 z1 z2 z3 z4 z5 z6 z7 z8 z9 s0 s1
      obtain ⟨z0, z1, z2, z3, z4, z5, z6, z7, z8, z9⟩ := HA2.out.at_
      obtain ⟨s0, s1⟩ := HX2.out.at_
      have hs2 : w.heap.size < w2.heap.size := HA2.out.lt
      have hx2 : w.heap.size + 1 < w2.heap.size := HX2.out.lt
      have zf2 := HA2.out.fz
      go_wp2_with fail
      refine ((KN _).out).mono ?_
      rintro e w3 ⟨rfl, hb⟩
      have HB3 : Hid (Below w.heap.size w w3) := HB2.out.trans (hb.mono HB2.out.size)
      have HA3 := hide (HA2.out.below hb)
      have HZ3 := hide (HZ2.out.below hb)
      have HX3 := hide (HX2.out.below hb)
      clear hb z0 z1 z2 z3 z4 z5 z6 z7 z8 z9 s0 s1
      obtain ⟨z0, z1, z2, z3, z4, z5, z6, z7, z8, z9⟩ := HA3.out.at_
      obtain ⟨s0, s1⟩ := HX3.out.at_
      have hs3 : w.heap.size < w3.heap.size := HA3.out.lt
      have hx3 : w.heap.size + 1 < w3.heap.size := HX3.out.lt
      have zf3 := HA3.out.fz
      go_wp2_with (refine wpList_store_row rfl 28 (.tmp 4) (.tmp 15) rfl (w.heap.size + 2) #[.string ⟨#[]⟩, .int .i64 0, .int .i64 0, .int .i64 0, .int .i64 0, .slice none 0 0, .int .i64 0, .int .i64 0, .int .i64 0, .int .i64 0] rfl rfl 28 #[.string ⟨#[]⟩, .int .i64 0, .int .i64 0, .int .i64 0, .int .i64 0, .slice none 0 0, .int .i64 0, .int .i64 0, .int .i64 0, .int .i64 0] HZ3.out ac_info rfl (by simp [Value.oneCell']) ?_)
      refine bodyPost_ret (v := .tuple #[.agg #[.string ⟨#[]⟩, .int .i64 0, .int .i64 0, .int .i64 0, .int .i64 0, .slice none 0 0, .int .i64 0, .int .i64 0, .int .i64 0, .int .i64 0], .int .i64 152]) ?r ?d ?_
      case r => exact results_cell_tmp' rfl _ _ (w.heap.size + 2) 28 #[.string ⟨#[]⟩, .int .i64 0, .int .i64 0, .int .i64 0, .int .i64 0, .slice none 0 0, .int .i64 0, .int .i64 0, .int .i64 0, .int .i64 0] (0, 0) _ (.int .i64 152) rfl rfl (setRow_heap _ _ _ _ _ _ HZ3.out) Try.underlying28 rfl ac_info
      case d => rfl
      exact mad_none 152 (below_setRow HB3.out (by omega) _)
    · rw [hk] at KN tb
      by_cases hg : lo ≤ A.base ∧ A.base ≤ hi
      · rw [hasB_true hg] at HS
        have eE : boundsE A lo hi = 0 := by unfold boundsE; rw [if_pos hr, if_pos tb, if_pos hg]
        have eA : boundsA A lo hi = { A with lo := lo, hi := hi } := by unfold boundsA; rw [if_pos eE]
        rw [eE, eA]
        clear eE eA hr hk h hw tb hl hrm hg
        unfold acval at CK KN ⊢
        unfold sval
        go_enter Try.func43, Try.ntmps43
        go_wp2_with fail
        obtain ⟨w1, ew, hb1, ha1, hx1, hz1⟩ := span_new w A a n c lo hi
        rw [← ew]
        have HB1 := hide hb1
        have HA1 := hide ha1
        have HX1 := hide hx1
        have HZ1 := hide hz1
        clear hb1 ha1 hx1 hz1 ew
        obtain ⟨z0, z1, z2, z3, z4, z5, z6, z7, z8, z9⟩ := HA1.out.at_
        obtain ⟨s0, s1⟩ := HX1.out.at_
        have hs1 : w.heap.size < w1.heap.size := HA1.out.lt
        have hx1 : w.heap.size + 1 < w1.heap.size := HX1.out.lt
        refine ((CK _).out HB1.out).mono ?_
        rintro e w2 ⟨rfl, hb⟩
        have HB2 : Hid (Below w.heap.size w w2) := HB1.out.trans (hb.mono HB1.out.size)
        have HA2 := hide (HA1.out.below hb)
        have HZ2 := hide (HZ1.out.below hb)
        have HX2 := hide (HX1.out.below hb)
        clear hb z0 z1 z2 z3 z4 z5 z6 z7 z8 z9 s0 s1
        obtain ⟨z0, z1, z2, z3, z4, z5, z6, z7, z8, z9⟩ := HA2.out.at_
        obtain ⟨s0, s1⟩ := HX2.out.at_
        have hs2 : w.heap.size < w2.heap.size := HA2.out.lt
        have hx2 : w.heap.size + 1 < w2.heap.size := HX2.out.lt
        have zf2 := HA2.out.fz
        go_wp2_with fail
        refine ((KN _).out).mono ?_
        rintro e w3 ⟨rfl, hb⟩
        have HB3 : Hid (Below w.heap.size w w3) := HB2.out.trans (hb.mono HB2.out.size)
        have HA3 := hide (HA2.out.below hb)
        have HZ3 := hide (HZ2.out.below hb)
        have HX3 := hide (HX2.out.below hb)
        clear hb z0 z1 z2 z3 z4 z5 z6 z7 z8 z9 s0 s1
        obtain ⟨z0, z1, z2, z3, z4, z5, z6, z7, z8, z9⟩ := HA3.out.at_
        obtain ⟨s0, s1⟩ := HX3.out.at_
        have hs3 : w.heap.size < w3.heap.size := HA3.out.lt
        have hx3 : w.heap.size + 1 < w3.heap.size := HX3.out.lt
        have zf3 := HA3.out.fz
        go_wp2_with fail
        refine ((HS _).out).mono ?_
        rintro e w4 ⟨rfl, hb⟩
        have HB4 : Hid (Below w.heap.size w w4) := HB3.out.trans (hb.mono HB3.out.size)
        have HA4 := hide (HA3.out.below hb)
        have HZ4 := hide (HZ3.out.below hb)
        have HX4 := hide (HX3.out.below hb)
        clear hb z0 z1 z2 z3 z4 z5 z6 z7 z8 z9 s0 s1
        obtain ⟨z0, z1, z2, z3, z4, z5, z6, z7, z8, z9⟩ := HA4.out.at_
        obtain ⟨s0, s1⟩ := HX4.out.at_
        have hs4 : w.heap.size < w4.heap.size := HA4.out.lt
        have hx4 : w.heap.size + 1 < w4.heap.size := HX4.out.lt
        have zf4 := HA4.out.fz
        go_wp2_with fail
        refine (own_made2 (w := w) (A := { A with lo := lo, hi := hi }) (a := a) (n := n) (c := c) H.out (by repeat (first | with_reducible exact HB4.out | refine b_set ?_)) (by repeat (first | with_reducible exact HZ4.out | refine z_far2 ?_))).mono ?_
        rintro e w9 ⟨a', c', rfl, h5, hb5, hf5, hc5, hz5⟩
        have H5 := hide h5
        have B5 := hide hb5
        have F5 := hide hf5
        have C5 := hide hc5
        have Z5 := hide hz5
        clear h5 hb5 hf5 hc5 hz5 z0 z1 z2 z3 z4 z5 z6 z7 z8 z9 s0 s1
        go_wp2_with (refine wpList_store_row rfl 28 (.tmp 4) (.tmp 26) rfl (w.heap.size + 2) #[.string A.key, .int .i64 (lo), .int .i64 (hi), .int .i64 (A.base), .int .i64 (A.rd), (.slice a' n c'), .int .i64 (A.lk.c), .int .i64 (A.lk.s), .int .i64 (A.lk.h), .int .i64 (A.lk.n)] rfl rfl 28 #[.string ⟨#[]⟩, .int .i64 0, .int .i64 0, .int .i64 0, .int .i64 0, .slice none 0 0, .int .i64 0, .int .i64 0, .int .i64 0, .int .i64 0] Z5.out ac_info rfl (by simp [Value.oneCell']) ?_)
        refine bodyPost_ret (v := .tuple #[.agg #[.string A.key, .int .i64 (lo), .int .i64 (hi), .int .i64 (A.base), .int .i64 (A.rd), (.slice a' n c'), .int .i64 (A.lk.c), .int .i64 (A.lk.s), .int .i64 (A.lk.h), .int .i64 (A.lk.n)], .int .i64 0]) ?r ?d ?_
        case r => exact results_cell_tmp' rfl _ _ (w.heap.size + 2) 28 #[.string A.key, .int .i64 (lo), .int .i64 (hi), .int .i64 (A.base), .int .i64 (A.rd), (.slice a' n c'), .int .i64 (A.lk.c), .int .i64 (A.lk.s), .int .i64 (A.lk.h), .int .i64 (A.lk.n)] (0, 0) _ (.int .i64 0) rfl rfl (setRow_heap _ _ _ _ _ _ Z5.out) Try.underlying28 rfl ac_info
        case d => rfl
        exact ⟨a', n, c', rfl, H5.out _, below_setRow B5.out (by omega) _, F5.out, C5.out⟩
      · rw [hasB_false hg] at HS
        have eE : boundsE A lo hi = 150 := by unfold boundsE; rw [if_pos hr, if_pos tb, if_neg hg]
        have eA : boundsA A lo hi = ac0 := by unfold boundsA; rw [eE]; rfl
        rw [eE, eA]
        clear eE eA
        clear hr hk h hw tb hl hrm hg
        unfold acval sval at *
        go_enter Try.func43, Try.ntmps43
        go_wp2_with fail
        obtain ⟨w1, ew, hb1, ha1, hx1, hz1⟩ := span_new w A a n c lo hi
        rw [← ew]
        have HB1 := hide hb1
        have HA1 := hide ha1
        have HX1 := hide hx1
        have HZ1 := hide hz1
        clear hb1 ha1 hx1 hz1 ew
        obtain ⟨z0, z1, z2, z3, z4, z5, z6, z7, z8, z9⟩ := HA1.out.at_
        obtain ⟨s0, s1⟩ := HX1.out.at_
        have hs1 : w.heap.size < w1.heap.size := HA1.out.lt
        have hx1 : w.heap.size + 1 < w1.heap.size := HX1.out.lt
        refine ((CK _).out HB1.out).mono ?_
        rintro e w2 ⟨rfl, hb⟩
        have HB2 : Hid (Below w.heap.size w w2) := HB1.out.trans (hb.mono HB1.out.size)
        have HA2 := hide (HA1.out.below hb)
        have HZ2 := hide (HZ1.out.below hb)
        have HX2 := hide (HX1.out.below hb)
        clear hb z0 z1 z2 z3 z4 z5 z6 z7 z8 z9 s0 s1
        obtain ⟨z0, z1, z2, z3, z4, z5, z6, z7, z8, z9⟩ := HA2.out.at_
        obtain ⟨s0, s1⟩ := HX2.out.at_
        have hs2 : w.heap.size < w2.heap.size := HA2.out.lt
        have hx2 : w.heap.size + 1 < w2.heap.size := HX2.out.lt
        have zf2 := HA2.out.fz
        go_wp2_with fail
        refine ((KN _).out).mono ?_
        rintro e w3 ⟨rfl, hb⟩
        have HB3 : Hid (Below w.heap.size w w3) := HB2.out.trans (hb.mono HB2.out.size)
        have HA3 := hide (HA2.out.below hb)
        have HZ3 := hide (HZ2.out.below hb)
        have HX3 := hide (HX2.out.below hb)
        clear hb z0 z1 z2 z3 z4 z5 z6 z7 z8 z9 s0 s1
        obtain ⟨z0, z1, z2, z3, z4, z5, z6, z7, z8, z9⟩ := HA3.out.at_
        obtain ⟨s0, s1⟩ := HX3.out.at_
        have hs3 : w.heap.size < w3.heap.size := HA3.out.lt
        have hx3 : w.heap.size + 1 < w3.heap.size := HX3.out.lt
        have zf3 := HA3.out.fz
        go_wp2_with fail
        refine ((HS _).out).mono ?_
        rintro e w4 ⟨rfl, hb⟩
        have HB4 : Hid (Below w.heap.size w w4) := HB3.out.trans (hb.mono HB3.out.size)
        have HA4 := hide (HA3.out.below hb)
        have HZ4 := hide (HZ3.out.below hb)
        have HX4 := hide (HX3.out.below hb)
        clear hb z0 z1 z2 z3 z4 z5 z6 z7 z8 z9 s0 s1
        obtain ⟨z0, z1, z2, z3, z4, z5, z6, z7, z8, z9⟩ := HA4.out.at_
        obtain ⟨s0, s1⟩ := HX4.out.at_
        have hs4 : w.heap.size < w4.heap.size := HA4.out.lt
        have hx4 : w.heap.size + 1 < w4.heap.size := HX4.out.lt
        have zf4 := HA4.out.fz
        go_wp2_with (refine wpList_store_row rfl 28 (.tmp 4) (.tmp 22) rfl (w.heap.size + 2) #[.string ⟨#[]⟩, .int .i64 0, .int .i64 0, .int .i64 0, .int .i64 0, .slice none 0 0, .int .i64 0, .int .i64 0, .int .i64 0, .int .i64 0] rfl rfl 28 #[.string ⟨#[]⟩, .int .i64 0, .int .i64 0, .int .i64 0, .int .i64 0, .slice none 0 0, .int .i64 0, .int .i64 0, .int .i64 0, .int .i64 0] HZ4.out ac_info rfl (by simp [Value.oneCell']) ?_)
        refine bodyPost_ret (v := .tuple #[.agg #[.string ⟨#[]⟩, .int .i64 0, .int .i64 0, .int .i64 0, .int .i64 0, .slice none 0 0, .int .i64 0, .int .i64 0, .int .i64 0, .int .i64 0], .int .i64 150]) ?r ?d ?_
        case r => exact results_cell_tmp' rfl _ _ (w.heap.size + 2) 28 #[.string ⟨#[]⟩, .int .i64 0, .int .i64 0, .int .i64 0, .int .i64 0, .slice none 0 0, .int .i64 0, .int .i64 0, .int .i64 0, .int .i64 0] (0, 0) _ (.int .i64 150) rfl rfl (setRow_heap _ _ _ _ _ _ HZ4.out) Try.underlying28 rfl ac_info
        case d => rfl
        exact mad_none 150 (below_setRow HB4.out (by omega) _)
  · have e4 : checkE A = 21 := by unfold checkE; rw [if_neg hr]
    rw [e4] at CK
    clear e4
    have eE : boundsE A lo hi = 21 := by unfold boundsE; rw [if_neg hr]
    have eA : boundsA A lo hi = ac0 := by unfold boundsA; rw [eE]; rfl
    rw [eE, eA]
    clear eE eA
    clear hr h hw tb hl hrm HS KN
    unfold acval sval at *
    go_enter Try.func43, Try.ntmps43
    go_wp2_with fail
    obtain ⟨w1, ew, hb1, ha1, hx1, hz1⟩ := span_new w A a n c lo hi
    rw [← ew]
    have HB1 := hide hb1
    have HA1 := hide ha1
    have HX1 := hide hx1
    have HZ1 := hide hz1
    clear hb1 ha1 hx1 hz1 ew
    obtain ⟨z0, z1, z2, z3, z4, z5, z6, z7, z8, z9⟩ := HA1.out.at_
    obtain ⟨s0, s1⟩ := HX1.out.at_
    have hs1 : w.heap.size < w1.heap.size := HA1.out.lt
    have hx1 : w.heap.size + 1 < w1.heap.size := HX1.out.lt
    refine ((CK _).out HB1.out).mono ?_
    rintro e w2 ⟨rfl, hb⟩
    have HB2 : Hid (Below w.heap.size w w2) := HB1.out.trans (hb.mono HB1.out.size)
    have HA2 := hide (HA1.out.below hb)
    have HZ2 := hide (HZ1.out.below hb)
    have HX2 := hide (HX1.out.below hb)
    clear hb z0 z1 z2 z3 z4 z5 z6 z7 z8 z9 s0 s1
    obtain ⟨z0, z1, z2, z3, z4, z5, z6, z7, z8, z9⟩ := HA2.out.at_
    obtain ⟨s0, s1⟩ := HX2.out.at_
    have hs2 : w.heap.size < w2.heap.size := HA2.out.lt
    have hx2 : w.heap.size + 1 < w2.heap.size := HX2.out.lt
    have zf2 := HA2.out.fz
    go_wp2_with (refine wpList_store_row rfl 28 (.tmp 4) (.tmp 10) rfl (w.heap.size + 2) #[.string ⟨#[]⟩, .int .i64 0, .int .i64 0, .int .i64 0, .int .i64 0, .slice none 0 0, .int .i64 0, .int .i64 0, .int .i64 0, .int .i64 0] rfl rfl 28 #[.string ⟨#[]⟩, .int .i64 0, .int .i64 0, .int .i64 0, .int .i64 0, .slice none 0 0, .int .i64 0, .int .i64 0, .int .i64 0, .int .i64 0] HZ2.out ac_info rfl (by simp [Value.oneCell']) ?_)
    refine bodyPost_ret (v := .tuple #[.agg #[.string ⟨#[]⟩, .int .i64 0, .int .i64 0, .int .i64 0, .int .i64 0, .slice none 0 0, .int .i64 0, .int .i64 0, .int .i64 0, .int .i64 0], .int .i64 21]) ?r ?d ?_
    case r => exact results_cell_tmp' rfl _ _ (w.heap.size + 2) 28 #[.string ⟨#[]⟩, .int .i64 0, .int .i64 0, .int .i64 0, .int .i64 0, .slice none 0 0, .int .i64 0, .int .i64 0, .int .i64 0, .int .i64 0] (0, 0) _ (.int .i64 21) rfl rfl (setRow_heap _ _ _ _ _ _ HZ2.out) Try.underlying28 rfl ac_info
    case d => rfl
    exact mad_none 21 (below_setRow HB2.out (by omega) _)
end Go.Proofs.Ytjcbhgkfbilifaa

namespace Go.Proofs.Ytjcbhgkfbilifaa
open Go.ChangeShapes Go.WideShapes Go.ChangeAt Go.RowKit Ao
set_option linter.unusedVariables false

set_option maxRecDepth 100000 in
set_option maxHeartbeats 2000000 in
theorem take_any {w : World} {a : Option Addr} {n c : Nat} {A : Ac} {l : Lk} (h : Hs w a n A.hs) (hw : AcW A) (hlw : LkW l) : Calls Try.prog 44 #[acval A a n c, lval l] w fun e w' => Mad w (takeA A l) (takeE A l) e w' := by
  have H := hide h
  have CK := fun W => hide (fun hW : Below w.heap.size w W => check_any (c := c) (h.below hW) hw)
  have hl := h.len
  have hrm := h.room
  have KN := fun W => hide (known_any (a := a) c W hl (by omega))
  have ML := fun W => hide (mayLock_any l W)
  have MM := fun W => hide (mayMove_any (A := A) a n c (v := l.n) W hw hlw.n)
  have tb := totalB_eq A
  by_cases hr : rightB A = true
  · have e4 : checkE A = 0 := by unfold checkE; rw [if_pos hr]
    rw [e4] at CK
    rw [hr, Bool.true_and] at tb
    clear e4
    cases hm : lockB l
    · rw [hm] at ML
      have eE : takeE A l = 1 := by unfold takeE; rw [if_pos hr, hm]; rfl
      have eA : takeA A l = ac0 := by unfold takeA; rw [eE]; rfl
      rw [eE, eA]
      clear eE eA
      clear hr hm h hw hlw tb hl hrm KN MM
      unfold acval lval at *
      go_enter Try.func44, Try.ntmps44
      go_wp2_with fail
      obtain ⟨w1, ew, hb1, ha1, hx1, hz1⟩ := lock_new w A a n c l
      rw [← ew]
      have HB1 := hide hb1
      have HA1 := hide ha1
      have HX1 := hide hx1
      have HZ1 := hide hz1
      clear hb1 ha1 hx1 hz1 ew
      obtain ⟨z0, z1, z2, z3, z4, z5, z6, z7, z8, z9⟩ := HA1.out.at_
      obtain ⟨s0, s1, s2, s3⟩ := HX1.out.at_
      have hs1 : w.heap.size < w1.heap.size := HA1.out.lt
      have hx1 : w.heap.size + 1 < w1.heap.size := HX1.out.lt
      refine ((CK _).out HB1.out).mono ?_
      rintro e w2 ⟨rfl, hb⟩
      have HB2 : Hid (Below w.heap.size w w2) := HB1.out.trans (hb.mono HB1.out.size)
      have HA2 := hide (HA1.out.below hb)
      have HZ2 := hide (HZ1.out.below hb)
      have HX2 := hide (HX1.out.below hb)
      clear hb z0 z1 z2 z3 z4 z5 z6 z7 z8 z9 s0 s1 s2 s3
      obtain ⟨z0, z1, z2, z3, z4, z5, z6, z7, z8, z9⟩ := HA2.out.at_
      obtain ⟨s0, s1, s2, s3⟩ := HX2.out.at_
      have hs2 : w.heap.size < w2.heap.size := HA2.out.lt
      have hx2 : w.heap.size + 1 < w2.heap.size := HX2.out.lt
      have zf2 := HA2.out.fz
      go_wp2_with fail
      refine ((ML _).out).mono ?_
      rintro e w3 ⟨rfl, hb⟩
      have HB3 : Hid (Below w.heap.size w w3) := HB2.out.trans (hb.mono HB2.out.size)
      have HA3 := hide (HA2.out.below hb)
      have HZ3 := hide (HZ2.out.below hb)
      have HX3 := hide (HX2.out.below hb)
      clear hb z0 z1 z2 z3 z4 z5 z6 z7 z8 z9 s0 s1 s2 s3
      obtain ⟨z0, z1, z2, z3, z4, z5, z6, z7, z8, z9⟩ := HA3.out.at_
      obtain ⟨s0, s1, s2, s3⟩ := HX3.out.at_
      have hs3 : w.heap.size < w3.heap.size := HA3.out.lt
      have hx3 : w.heap.size + 1 < w3.heap.size := HX3.out.lt
      have zf3 := HA3.out.fz
      go_wp2_with (refine wpList_store_row rfl 28 (.tmp 4) (.tmp 15) rfl (w.heap.size + 2) #[.string ⟨#[]⟩, .int .i64 0, .int .i64 0, .int .i64 0, .int .i64 0, .slice none 0 0, .int .i64 0, .int .i64 0, .int .i64 0, .int .i64 0] rfl rfl 28 #[.string ⟨#[]⟩, .int .i64 0, .int .i64 0, .int .i64 0, .int .i64 0, .slice none 0 0, .int .i64 0, .int .i64 0, .int .i64 0, .int .i64 0] HZ3.out ac_info rfl (by simp [Value.oneCell']) ?_)
      refine bodyPost_ret (v := .tuple #[.agg #[.string ⟨#[]⟩, .int .i64 0, .int .i64 0, .int .i64 0, .int .i64 0, .slice none 0 0, .int .i64 0, .int .i64 0, .int .i64 0, .int .i64 0], .int .i64 1]) ?r ?d ?_
      case r => exact results_cell_tmp' rfl _ _ (w.heap.size + 2) 28 #[.string ⟨#[]⟩, .int .i64 0, .int .i64 0, .int .i64 0, .int .i64 0, .slice none 0 0, .int .i64 0, .int .i64 0, .int .i64 0, .int .i64 0] (0, 0) _ (.int .i64 1) rfl rfl (setRow_heap _ _ _ _ _ _ HZ3.out) Try.underlying28 rfl ac_info
      case d => rfl
      exact mad_none 1 (below_setRow HB3.out (by omega) _)
    rw [hm] at ML
    cases hk : knownB A
    · rw [hk] at KN tb
      have eE : takeE A l = 152 := by unfold takeE; rw [if_pos hr, if_pos hm, tb]; rfl
      have eA : takeA A l = ac0 := by unfold takeA; rw [eE]; rfl
      rw [eE, eA]
      clear eE eA
      clear hr hm hk h hw hlw tb hl hrm MM
      unfold acval lval at *
      go_enter Try.func44, Try.ntmps44
      go_wp2_with fail
      obtain ⟨w1, ew, hb1, ha1, hx1, hz1⟩ := lock_new w A a n c l
      rw [← ew]
      have HB1 := hide hb1
      have HA1 := hide ha1
      have HX1 := hide hx1
      have HZ1 := hide hz1
      clear hb1 ha1 hx1 hz1 ew
      obtain ⟨z0, z1, z2, z3, z4, z5, z6, z7, z8, z9⟩ := HA1.out.at_
      obtain ⟨s0, s1, s2, s3⟩ := HX1.out.at_
      have hs1 : w.heap.size < w1.heap.size := HA1.out.lt
      have hx1 : w.heap.size + 1 < w1.heap.size := HX1.out.lt
      refine ((CK _).out HB1.out).mono ?_
      rintro e w2 ⟨rfl, hb⟩
      have HB2 : Hid (Below w.heap.size w w2) := HB1.out.trans (hb.mono HB1.out.size)
      have HA2 := hide (HA1.out.below hb)
      have HZ2 := hide (HZ1.out.below hb)
      have HX2 := hide (HX1.out.below hb)
      clear hb z0 z1 z2 z3 z4 z5 z6 z7 z8 z9 s0 s1 s2 s3
      obtain ⟨z0, z1, z2, z3, z4, z5, z6, z7, z8, z9⟩ := HA2.out.at_
      obtain ⟨s0, s1, s2, s3⟩ := HX2.out.at_
      have hs2 : w.heap.size < w2.heap.size := HA2.out.lt
      have hx2 : w.heap.size + 1 < w2.heap.size := HX2.out.lt
      have zf2 := HA2.out.fz
      go_wp2_with fail
      refine ((ML _).out).mono ?_
      rintro e w3 ⟨rfl, hb⟩
      have HB3 : Hid (Below w.heap.size w w3) := HB2.out.trans (hb.mono HB2.out.size)
      have HA3 := hide (HA2.out.below hb)
      have HZ3 := hide (HZ2.out.below hb)
      have HX3 := hide (HX2.out.below hb)
      clear hb z0 z1 z2 z3 z4 z5 z6 z7 z8 z9 s0 s1 s2 s3
      obtain ⟨z0, z1, z2, z3, z4, z5, z6, z7, z8, z9⟩ := HA3.out.at_
      obtain ⟨s0, s1, s2, s3⟩ := HX3.out.at_
      have hs3 : w.heap.size < w3.heap.size := HA3.out.lt
      have hx3 : w.heap.size + 1 < w3.heap.size := HX3.out.lt
      have zf3 := HA3.out.fz
      go_wp2_with fail
      refine ((KN _).out).mono ?_
      rintro e w4 ⟨rfl, hb⟩
      have HB4 : Hid (Below w.heap.size w w4) := HB3.out.trans (hb.mono HB3.out.size)
      have HA4 := hide (HA3.out.below hb)
      have HZ4 := hide (HZ3.out.below hb)
      have HX4 := hide (HX3.out.below hb)
      clear hb z0 z1 z2 z3 z4 z5 z6 z7 z8 z9 s0 s1 s2 s3
      obtain ⟨z0, z1, z2, z3, z4, z5, z6, z7, z8, z9⟩ := HA4.out.at_
      obtain ⟨s0, s1, s2, s3⟩ := HX4.out.at_
      have hs4 : w.heap.size < w4.heap.size := HA4.out.lt
      have hx4 : w.heap.size + 1 < w4.heap.size := HX4.out.lt
      have zf4 := HA4.out.fz
      go_wp2_with (refine wpList_store_row rfl 28 (.tmp 4) (.tmp 20) rfl (w.heap.size + 2) #[.string ⟨#[]⟩, .int .i64 0, .int .i64 0, .int .i64 0, .int .i64 0, .slice none 0 0, .int .i64 0, .int .i64 0, .int .i64 0, .int .i64 0] rfl rfl 28 #[.string ⟨#[]⟩, .int .i64 0, .int .i64 0, .int .i64 0, .int .i64 0, .slice none 0 0, .int .i64 0, .int .i64 0, .int .i64 0, .int .i64 0] HZ4.out ac_info rfl (by simp [Value.oneCell']) ?_)
      refine bodyPost_ret (v := .tuple #[.agg #[.string ⟨#[]⟩, .int .i64 0, .int .i64 0, .int .i64 0, .int .i64 0, .slice none 0 0, .int .i64 0, .int .i64 0, .int .i64 0, .int .i64 0], .int .i64 152]) ?r ?d ?_
      case r => exact results_cell_tmp' rfl _ _ (w.heap.size + 2) 28 #[.string ⟨#[]⟩, .int .i64 0, .int .i64 0, .int .i64 0, .int .i64 0, .slice none 0 0, .int .i64 0, .int .i64 0, .int .i64 0, .int .i64 0] (0, 0) _ (.int .i64 152) rfl rfl (setRow_heap _ _ _ _ _ _ HZ4.out) Try.underlying28 rfl ac_info
      case d => rfl
      exact mad_none 152 (below_setRow HB4.out (by omega) _)
    rw [hk] at KN tb
    by_cases hg : A.lo ≤ A.base + l.n ∧ A.base + l.n ≤ A.hi
    · have em : moveB A l.n = true := by
        unfold moveB
        have q4 := hw.lo
        have q5 := hw.hi
        rw [hasB_true hg, decide_eq_true (show I64 (A.base + l.n) by unfold I64 at *; omega)]; rfl
      rw [em] at MM
      have eE : takeE A l = 0 := by unfold takeE; rw [if_pos hr, if_pos hm, if_pos tb, if_pos hg]
      have eA : takeA A l = { A with lk := l } := by unfold takeA; rw [if_pos eE]
      rw [eE, eA]
      clear eE eA hr hm hk h hw hlw tb hl hrm hg em
      unfold acval at CK KN MM ⊢
      unfold lval at *
      go_enter Try.func44, Try.ntmps44
      go_wp2_with fail
      obtain ⟨w1, ew, hb1, ha1, hx1, hz1⟩ := lock_new w A a n c l
      rw [← ew]
      have HB1 := hide hb1
      have HA1 := hide ha1
      have HX1 := hide hx1
      have HZ1 := hide hz1
      clear hb1 ha1 hx1 hz1 ew
      obtain ⟨z0, z1, z2, z3, z4, z5, z6, z7, z8, z9⟩ := HA1.out.at_
      obtain ⟨s0, s1, s2, s3⟩ := HX1.out.at_
      have hs1 : w.heap.size < w1.heap.size := HA1.out.lt
      have hx1 : w.heap.size + 1 < w1.heap.size := HX1.out.lt
      refine ((CK _).out HB1.out).mono ?_
      rintro e w2 ⟨rfl, hb⟩
      have HB2 : Hid (Below w.heap.size w w2) := HB1.out.trans (hb.mono HB1.out.size)
      have HA2 := hide (HA1.out.below hb)
      have HZ2 := hide (HZ1.out.below hb)
      have HX2 := hide (HX1.out.below hb)
      clear hb z0 z1 z2 z3 z4 z5 z6 z7 z8 z9 s0 s1 s2 s3
      obtain ⟨z0, z1, z2, z3, z4, z5, z6, z7, z8, z9⟩ := HA2.out.at_
      obtain ⟨s0, s1, s2, s3⟩ := HX2.out.at_
      have hs2 : w.heap.size < w2.heap.size := HA2.out.lt
      have hx2 : w.heap.size + 1 < w2.heap.size := HX2.out.lt
      have zf2 := HA2.out.fz
      go_wp2_with fail
      refine ((ML _).out).mono ?_
      rintro e w3 ⟨rfl, hb⟩
      have HB3 : Hid (Below w.heap.size w w3) := HB2.out.trans (hb.mono HB2.out.size)
      have HA3 := hide (HA2.out.below hb)
      have HZ3 := hide (HZ2.out.below hb)
      have HX3 := hide (HX2.out.below hb)
      clear hb z0 z1 z2 z3 z4 z5 z6 z7 z8 z9 s0 s1 s2 s3
      obtain ⟨z0, z1, z2, z3, z4, z5, z6, z7, z8, z9⟩ := HA3.out.at_
      obtain ⟨s0, s1, s2, s3⟩ := HX3.out.at_
      have hs3 : w.heap.size < w3.heap.size := HA3.out.lt
      have hx3 : w.heap.size + 1 < w3.heap.size := HX3.out.lt
      have zf3 := HA3.out.fz
      go_wp2_with fail
      refine ((KN _).out).mono ?_
      rintro e w4 ⟨rfl, hb⟩
      have HB4 : Hid (Below w.heap.size w w4) := HB3.out.trans (hb.mono HB3.out.size)
      have HA4 := hide (HA3.out.below hb)
      have HZ4 := hide (HZ3.out.below hb)
      have HX4 := hide (HX3.out.below hb)
      clear hb z0 z1 z2 z3 z4 z5 z6 z7 z8 z9 s0 s1 s2 s3
      obtain ⟨z0, z1, z2, z3, z4, z5, z6, z7, z8, z9⟩ := HA4.out.at_
      obtain ⟨s0, s1, s2, s3⟩ := HX4.out.at_
      have hs4 : w.heap.size < w4.heap.size := HA4.out.lt
      have hx4 : w.heap.size + 1 < w4.heap.size := HX4.out.lt
      have zf4 := HA4.out.fz
      go_wp2_with fail
      refine ((MM _).out).mono ?_
      rintro e w5 ⟨rfl, hb⟩
      have HB5 : Hid (Below w.heap.size w w5) := HB4.out.trans (hb.mono HB4.out.size)
      have HA5 := hide (HA4.out.below hb)
      have HZ5 := hide (HZ4.out.below hb)
      have HX5 := hide (HX4.out.below hb)
      clear hb z0 z1 z2 z3 z4 z5 z6 z7 z8 z9 s0 s1 s2 s3
      obtain ⟨z0, z1, z2, z3, z4, z5, z6, z7, z8, z9⟩ := HA5.out.at_
      obtain ⟨s0, s1, s2, s3⟩ := HX5.out.at_
      have hs5 : w.heap.size < w5.heap.size := HA5.out.lt
      have hx5 : w.heap.size + 1 < w5.heap.size := HX5.out.lt
      have zf5 := HA5.out.fz
      go_wp2_with fail
      refine (own_made2 (w := w) (A := { A with lk := l }) (a := a) (n := n) (c := c) H.out (by repeat (first | with_reducible exact HB5.out | refine b_set ?_)) (by repeat (first | with_reducible exact HZ5.out | refine z_far2 ?_))).mono ?_
      rintro e w9 ⟨a', c', rfl, h5, hb5, hf5, hc5, hz5⟩
      have H5 := hide h5
      have B5 := hide hb5
      have F5 := hide hf5
      have C5 := hide hc5
      have Z5 := hide hz5
      clear h5 hb5 hf5 hc5 hz5 z0 z1 z2 z3 z4 z5 z6 z7 z8 z9 s0 s1 s2 s3
      go_wp2_with (refine wpList_store_row rfl 28 (.tmp 4) (.tmp 31) rfl (w.heap.size + 2) #[.string A.key, .int .i64 (A.lo), .int .i64 (A.hi), .int .i64 (A.base), .int .i64 (A.rd), (.slice a' n c'), .int .i64 (l.c), .int .i64 (l.s), .int .i64 (l.h), .int .i64 (l.n)] rfl rfl 28 #[.string ⟨#[]⟩, .int .i64 0, .int .i64 0, .int .i64 0, .int .i64 0, .slice none 0 0, .int .i64 0, .int .i64 0, .int .i64 0, .int .i64 0] Z5.out ac_info rfl (by simp [Value.oneCell']) ?_)
      refine bodyPost_ret (v := .tuple #[.agg #[.string A.key, .int .i64 (A.lo), .int .i64 (A.hi), .int .i64 (A.base), .int .i64 (A.rd), (.slice a' n c'), .int .i64 (l.c), .int .i64 (l.s), .int .i64 (l.h), .int .i64 (l.n)], .int .i64 0]) ?r ?d ?_
      case r => exact results_cell_tmp' rfl _ _ (w.heap.size + 2) 28 #[.string A.key, .int .i64 (A.lo), .int .i64 (A.hi), .int .i64 (A.base), .int .i64 (A.rd), (.slice a' n c'), .int .i64 (l.c), .int .i64 (l.s), .int .i64 (l.h), .int .i64 (l.n)] (0, 0) _ (.int .i64 0) rfl rfl (setRow_heap _ _ _ _ _ _ Z5.out) Try.underlying28 rfl ac_info
      case d => rfl
      exact ⟨a', n, c', rfl, H5.out _, below_setRow B5.out (by omega) _, F5.out, C5.out⟩
    · have em : moveB A l.n = false := by unfold moveB; rw [hasB_false hg, Bool.and_false]
      rw [em] at MM
      have eE : takeE A l = 150 := by unfold takeE; rw [if_pos hr, if_pos hm, if_pos tb, if_neg hg]
      have eA : takeA A l = ac0 := by unfold takeA; rw [eE]; rfl
      rw [eE, eA]
      clear eE eA
      clear hr hm hk h hw hlw tb hl hrm hg em
      unfold acval lval at *
      go_enter Try.func44, Try.ntmps44
      go_wp2_with fail
      obtain ⟨w1, ew, hb1, ha1, hx1, hz1⟩ := lock_new w A a n c l
      rw [← ew]
      have HB1 := hide hb1
      have HA1 := hide ha1
      have HX1 := hide hx1
      have HZ1 := hide hz1
      clear hb1 ha1 hx1 hz1 ew
      obtain ⟨z0, z1, z2, z3, z4, z5, z6, z7, z8, z9⟩ := HA1.out.at_
      obtain ⟨s0, s1, s2, s3⟩ := HX1.out.at_
      have hs1 : w.heap.size < w1.heap.size := HA1.out.lt
      have hx1 : w.heap.size + 1 < w1.heap.size := HX1.out.lt
      refine ((CK _).out HB1.out).mono ?_
      rintro e w2 ⟨rfl, hb⟩
      have HB2 : Hid (Below w.heap.size w w2) := HB1.out.trans (hb.mono HB1.out.size)
      have HA2 := hide (HA1.out.below hb)
      have HZ2 := hide (HZ1.out.below hb)
      have HX2 := hide (HX1.out.below hb)
      clear hb z0 z1 z2 z3 z4 z5 z6 z7 z8 z9 s0 s1 s2 s3
      obtain ⟨z0, z1, z2, z3, z4, z5, z6, z7, z8, z9⟩ := HA2.out.at_
      obtain ⟨s0, s1, s2, s3⟩ := HX2.out.at_
      have hs2 : w.heap.size < w2.heap.size := HA2.out.lt
      have hx2 : w.heap.size + 1 < w2.heap.size := HX2.out.lt
      have zf2 := HA2.out.fz
      go_wp2_with fail
      refine ((ML _).out).mono ?_
      rintro e w3 ⟨rfl, hb⟩
      have HB3 : Hid (Below w.heap.size w w3) := HB2.out.trans (hb.mono HB2.out.size)
      have HA3 := hide (HA2.out.below hb)
      have HZ3 := hide (HZ2.out.below hb)
      have HX3 := hide (HX2.out.below hb)
      clear hb z0 z1 z2 z3 z4 z5 z6 z7 z8 z9 s0 s1 s2 s3
      obtain ⟨z0, z1, z2, z3, z4, z5, z6, z7, z8, z9⟩ := HA3.out.at_
      obtain ⟨s0, s1, s2, s3⟩ := HX3.out.at_
      have hs3 : w.heap.size < w3.heap.size := HA3.out.lt
      have hx3 : w.heap.size + 1 < w3.heap.size := HX3.out.lt
      have zf3 := HA3.out.fz
      go_wp2_with fail
      refine ((KN _).out).mono ?_
      rintro e w4 ⟨rfl, hb⟩
      have HB4 : Hid (Below w.heap.size w w4) := HB3.out.trans (hb.mono HB3.out.size)
      have HA4 := hide (HA3.out.below hb)
      have HZ4 := hide (HZ3.out.below hb)
      have HX4 := hide (HX3.out.below hb)
      clear hb z0 z1 z2 z3 z4 z5 z6 z7 z8 z9 s0 s1 s2 s3
      obtain ⟨z0, z1, z2, z3, z4, z5, z6, z7, z8, z9⟩ := HA4.out.at_
      obtain ⟨s0, s1, s2, s3⟩ := HX4.out.at_
      have hs4 : w.heap.size < w4.heap.size := HA4.out.lt
      have hx4 : w.heap.size + 1 < w4.heap.size := HX4.out.lt
      have zf4 := HA4.out.fz
      go_wp2_with fail
      refine ((MM _).out).mono ?_
      rintro e w5 ⟨rfl, hb⟩
      have HB5 : Hid (Below w.heap.size w w5) := HB4.out.trans (hb.mono HB4.out.size)
      have HA5 := hide (HA4.out.below hb)
      have HZ5 := hide (HZ4.out.below hb)
      have HX5 := hide (HX4.out.below hb)
      clear hb z0 z1 z2 z3 z4 z5 z6 z7 z8 z9 s0 s1 s2 s3
      obtain ⟨z0, z1, z2, z3, z4, z5, z6, z7, z8, z9⟩ := HA5.out.at_
      obtain ⟨s0, s1, s2, s3⟩ := HX5.out.at_
      have hs5 : w.heap.size < w5.heap.size := HA5.out.lt
      have hx5 : w.heap.size + 1 < w5.heap.size := HX5.out.lt
      have zf5 := HA5.out.fz
      go_wp2_with (refine wpList_store_row rfl 28 (.tmp 4) (.tmp 27) rfl (w.heap.size + 2) #[.string ⟨#[]⟩, .int .i64 0, .int .i64 0, .int .i64 0, .int .i64 0, .slice none 0 0, .int .i64 0, .int .i64 0, .int .i64 0, .int .i64 0] rfl rfl 28 #[.string ⟨#[]⟩, .int .i64 0, .int .i64 0, .int .i64 0, .int .i64 0, .slice none 0 0, .int .i64 0, .int .i64 0, .int .i64 0, .int .i64 0] HZ5.out ac_info rfl (by simp [Value.oneCell']) ?_)
      refine bodyPost_ret (v := .tuple #[.agg #[.string ⟨#[]⟩, .int .i64 0, .int .i64 0, .int .i64 0, .int .i64 0, .slice none 0 0, .int .i64 0, .int .i64 0, .int .i64 0, .int .i64 0], .int .i64 150]) ?r ?d ?_
      case r => exact results_cell_tmp' rfl _ _ (w.heap.size + 2) 28 #[.string ⟨#[]⟩, .int .i64 0, .int .i64 0, .int .i64 0, .int .i64 0, .slice none 0 0, .int .i64 0, .int .i64 0, .int .i64 0, .int .i64 0] (0, 0) _ (.int .i64 150) rfl rfl (setRow_heap _ _ _ _ _ _ HZ5.out) Try.underlying28 rfl ac_info
      case d => rfl
      exact mad_none 150 (below_setRow HB5.out (by omega) _)
  · have e4 : checkE A = 21 := by unfold checkE; rw [if_neg hr]
    rw [e4] at CK
    clear e4
    have eE : takeE A l = 21 := by unfold takeE; rw [if_neg hr]
    have eA : takeA A l = ac0 := by unfold takeA; rw [eE]; rfl
    rw [eE, eA]
    clear eE eA
    clear hr h hw hlw tb hl hrm KN ML MM
    unfold acval lval at *
    go_enter Try.func44, Try.ntmps44
    go_wp2_with fail
    obtain ⟨w1, ew, hb1, ha1, hx1, hz1⟩ := lock_new w A a n c l
    rw [← ew]
    have HB1 := hide hb1
    have HA1 := hide ha1
    have HX1 := hide hx1
    have HZ1 := hide hz1
    clear hb1 ha1 hx1 hz1 ew
    obtain ⟨z0, z1, z2, z3, z4, z5, z6, z7, z8, z9⟩ := HA1.out.at_
    obtain ⟨s0, s1, s2, s3⟩ := HX1.out.at_
    have hs1 : w.heap.size < w1.heap.size := HA1.out.lt
    have hx1 : w.heap.size + 1 < w1.heap.size := HX1.out.lt
    refine ((CK _).out HB1.out).mono ?_
    rintro e w2 ⟨rfl, hb⟩
    have HB2 : Hid (Below w.heap.size w w2) := HB1.out.trans (hb.mono HB1.out.size)
    have HA2 := hide (HA1.out.below hb)
    have HZ2 := hide (HZ1.out.below hb)
    have HX2 := hide (HX1.out.below hb)
    clear hb z0 z1 z2 z3 z4 z5 z6 z7 z8 z9 s0 s1 s2 s3
    obtain ⟨z0, z1, z2, z3, z4, z5, z6, z7, z8, z9⟩ := HA2.out.at_
    obtain ⟨s0, s1, s2, s3⟩ := HX2.out.at_
    have hs2 : w.heap.size < w2.heap.size := HA2.out.lt
    have hx2 : w.heap.size + 1 < w2.heap.size := HX2.out.lt
    have zf2 := HA2.out.fz
    go_wp2_with (refine wpList_store_row rfl 28 (.tmp 4) (.tmp 10) rfl (w.heap.size + 2) #[.string ⟨#[]⟩, .int .i64 0, .int .i64 0, .int .i64 0, .int .i64 0, .slice none 0 0, .int .i64 0, .int .i64 0, .int .i64 0, .int .i64 0] rfl rfl 28 #[.string ⟨#[]⟩, .int .i64 0, .int .i64 0, .int .i64 0, .int .i64 0, .slice none 0 0, .int .i64 0, .int .i64 0, .int .i64 0, .int .i64 0] HZ2.out ac_info rfl (by simp [Value.oneCell']) ?_)
    refine bodyPost_ret (v := .tuple #[.agg #[.string ⟨#[]⟩, .int .i64 0, .int .i64 0, .int .i64 0, .int .i64 0, .slice none 0 0, .int .i64 0, .int .i64 0, .int .i64 0, .int .i64 0], .int .i64 21]) ?r ?d ?_
    case r => exact results_cell_tmp' rfl _ _ (w.heap.size + 2) 28 #[.string ⟨#[]⟩, .int .i64 0, .int .i64 0, .int .i64 0, .int .i64 0, .slice none 0 0, .int .i64 0, .int .i64 0, .int .i64 0, .int .i64 0] (0, 0) _ (.int .i64 21) rfl rfl (setRow_heap _ _ _ _ _ _ HZ2.out) Try.underlying28 rfl ac_info
    case d => rfl
    exact mad_none 21 (below_setRow HB2.out (by omega) _)
end Go.Proofs.Ytjcbhgkfbilifaa
