/- What Grant answers: the landed code. Condition: the account can be read. -/
import Derived.Deep.Cut
import Derived.Deep.CutRange
import Derived.Deep.RegionHeld3
import Derived.Test.YtfolpnjndlklkaaAcoMade
import Derived.Test.YtfolpnjndlklkaaAcoWith
import Derived.Test.YtfolpnjndlklkaaAcoFind
import Derived.Laws.Tables
namespace Go.Proofs.Ytfolpnjndlklkaa
open Go.ChangeShapes Go.WideShapes Go.ChangeAt Go.RowKit Ao
set_option linter.unusedVariables false

set_option maxRecDepth 100000 in
set_option maxHeartbeats 2000000 in
theorem grant_bad {w : World} {a : Option Addr} {n c : Nat} {A : Ac} {node lease nodes : Int} (h : Hs w a n A.hs) (hw : AcW A) (he : ¬ grantE A node lease nodes = 0) : Calls Try.prog 31 #[acval A a n c, .int .i64 node, .int .i64 lease, .int .i64 nodes] w fun e w' => Mad w (grantA A node lease nodes) (grantE A node lease nodes) e w' := by
  have H := hide h
  have CK := fun W => hide (fun hW : Below w.heap.size w W => check_any (c := c) (h.below hW) hw)
  have LC := fun W => hide (locked_any A a n c W)
  have NU := fun W => hide (number_any lease W)
  by_cases hr : rightB A = true
  · have e4 : checkE A = 0 := by unfold checkE; rw [if_pos hr]
    rw [e4] at CK
    clear e4
    by_cases h1 : 1 ≤ node ∧ node ≤ nodes ∧ nodes ≤ 5
    · obtain ⟨g1, g2, g3⟩ := h1
      cases hn : numB lease
      · rw [hn] at NU
        have eE : grantE A node lease nodes = 1 := by unfold grantE; rw [if_pos hr, if_neg (by rw [hn]; simp)]
        have eA : grantA A node lease nodes = ac0 := by unfold grantA; rw [eE]; rfl
        rw [eE, eA]
        clear eE eA
        clear h hw he hr hn LC
        unfold acval at *
        go_enter Try.func31, Try.ntmps31
        go_wp2_with fail
        obtain ⟨w1, ew, hb1, ha1, hz1⟩ := two_new w A a n c
        rw [← ew]
        have HB1 := hide hb1
        have HA1 := hide ha1
        have HZ1 := hide hz1
        clear hb1 ha1 hz1 ew
        obtain ⟨z0, z1, z2, z3, z4, z5, z6, z7, z8, z9⟩ := HA1.out.at_
        have hs1 : w.heap.size < w1.heap.size := HA1.out.lt
        have HZ1' : Hid (Zr w1 (w.heap.size + 1)) := HZ1.out.zr
        clear HZ1
        have HZ1 := HZ1'
        clear HZ1'
        refine ((CK _).out HB1.out).mono ?_
        rintro e w2 ⟨rfl, hb⟩
        have HB2 : Hid (Below w.heap.size w w2) := HB1.out.trans (hb.mono HB1.out.size)
        have HA2 := hide (HA1.out.below hb)
        have HZ2 := hide (HZ1.out.below hb)
        clear hb z0 z1 z2 z3 z4 z5 z6 z7 z8 z9
        obtain ⟨z0, z1, z2, z3, z4, z5, z6, z7, z8, z9⟩ := HA2.out.at_
        have hs2 : w.heap.size < w2.heap.size := HA2.out.lt
        have zf2 := HA2.out.fz
        go_upto_region 4 with (go_at_call 64; refine ((NU _).out).mono ?_; rintro e w' ⟨rfl, hw⟩; rw [hw]; clear hw)
        go_wp2_with (refine wpList_store_row rfl 28 (.tmp 8) (.tmp 36) rfl (w.heap.size + 1) #[.string ⟨#[]⟩, .int .i64 0, .int .i64 0, .int .i64 0, .int .i64 0, .slice none 0 0, .int .i64 0, .int .i64 0, .int .i64 0, .int .i64 0] rfl rfl 28 #[.string ⟨#[]⟩, .int .i64 0, .int .i64 0, .int .i64 0, .int .i64 0, .slice none 0 0, .int .i64 0, .int .i64 0, .int .i64 0, .int .i64 0] HZ2.out ac_info rfl (by simp [Value.oneCell']) ?_)
        refine bodyPost_ret (v := .tuple #[.agg #[.string ⟨#[]⟩, .int .i64 0, .int .i64 0, .int .i64 0, .int .i64 0, .slice none 0 0, .int .i64 0, .int .i64 0, .int .i64 0, .int .i64 0], .int .i64 1]) ?r ?d ?_
        case r => exact results_cell_tmp' rfl _ _ (w.heap.size + 1) 28 #[.string ⟨#[]⟩, .int .i64 0, .int .i64 0, .int .i64 0, .int .i64 0, .slice none 0 0, .int .i64 0, .int .i64 0, .int .i64 0, .int .i64 0] (0, 0) _ (.int .i64 1) rfl rfl (setRow_heap _ _ _ _ _ _ HZ2.out) Try.underlying28 rfl ac_info
        case d => rfl
        exact mad_none 1 (below_setRow HB2.out (by omega) _)
      · rw [hn] at NU
        have hok : 1 ≤ nodes ∧ nodes ≤ 5 ∧ 1 ≤ node ∧ node ≤ nodes ∧ numB lease = true := ⟨by omega, g3, g1, g2, hn⟩
        by_cases hrd : A.rd = 0
        · by_cases hl : A.lk.c = 0
          · exact absurd (by unfold grantE; rw [if_pos hr, if_pos hok, if_pos ⟨hrd, hl⟩]) he
          · have e3 : lockedB A = true := by unfold lockedB; rw [decide_eq_false hl]; rfl
            rw [e3] at LC
            have eE : grantE A node lease nodes = 152 := by unfold grantE; rw [if_pos hr, if_pos hok, if_neg fun h => hl h.2]
            have eA : grantA A node lease nodes = ac0 := by unfold grantA; rw [eE]; rfl
            rw [eE, eA]
            clear eE eA h hw he hr hn hok e3
            obtain ⟨ak, alo, ahi, ab, ard, ahs, alk⟩ := A
            obtain rfl : ard = 0 := hrd
            unfold acval at *
            go_enter Try.func31, Try.ntmps31
            go_wp2_with fail
            obtain ⟨w1, ew, hb1, ha1, hz1⟩ := two_new w ⟨ak, alo, ahi, ab, 0, ahs, alk⟩ a n c
            rw [← ew]
            have HB1 := hide hb1
            have HA1 := hide ha1
            have HZ1 := hide hz1
            clear hb1 ha1 hz1 ew
            obtain ⟨z0, z1, z2, z3, z4, z5, z6, z7, z8, z9⟩ := HA1.out.at_
            have hs1 : w.heap.size < w1.heap.size := HA1.out.lt
            have HZ1' : Hid (Zr w1 (w.heap.size + 1)) := HZ1.out.zr
            clear HZ1
            have HZ1 := HZ1'
            clear HZ1'
            refine ((CK _).out HB1.out).mono ?_
            rintro e w2 ⟨rfl, hb⟩
            have HB2 : Hid (Below w.heap.size w w2) := HB1.out.trans (hb.mono HB1.out.size)
            have HA2 := hide (HA1.out.below hb)
            have HZ2 := hide (HZ1.out.below hb)
            clear hb z0 z1 z2 z3 z4 z5 z6 z7 z8 z9
            obtain ⟨z0, z1, z2, z3, z4, z5, z6, z7, z8, z9⟩ := HA2.out.at_
            have hs2 : w.heap.size < w2.heap.size := HA2.out.lt
            have zf2 := HA2.out.fz
            go_wp2_with (go_at_call 64; refine ((NU _).out).mono ?_; rintro e w' ⟨rfl, hw⟩; rw [hw]; clear hw)
            refine ((LC _).out).mono ?_
            rintro e w3 ⟨rfl, hb⟩
            have HB3 : Hid (Below w.heap.size w w3) := HB2.out.trans (hb.mono HB2.out.size)
            have HA3 := hide (HA2.out.below hb)
            have HZ3 := hide (HZ2.out.below hb)
            clear hb z0 z1 z2 z3 z4 z5 z6 z7 z8 z9
            obtain ⟨z0, z1, z2, z3, z4, z5, z6, z7, z8, z9⟩ := HA3.out.at_
            have hs3 : w.heap.size < w3.heap.size := HA3.out.lt
            have zf3 := HA3.out.fz
            go_upto_region 6 with fail
            go_wp2_with (refine wpList_store_row rfl 28 (.tmp 8) (.tmp 45) rfl (w.heap.size + 1) #[.string ⟨#[]⟩, .int .i64 0, .int .i64 0, .int .i64 0, .int .i64 0, .slice none 0 0, .int .i64 0, .int .i64 0, .int .i64 0, .int .i64 0] rfl rfl 28 #[.string ⟨#[]⟩, .int .i64 0, .int .i64 0, .int .i64 0, .int .i64 0, .slice none 0 0, .int .i64 0, .int .i64 0, .int .i64 0, .int .i64 0] HZ3.out ac_info rfl (by simp [Value.oneCell']) ?_)
            refine bodyPost_ret (v := .tuple #[.agg #[.string ⟨#[]⟩, .int .i64 0, .int .i64 0, .int .i64 0, .int .i64 0, .slice none 0 0, .int .i64 0, .int .i64 0, .int .i64 0, .int .i64 0], .int .i64 152]) ?r ?d ?_
            case r => exact results_cell_tmp' rfl _ _ (w.heap.size + 1) 28 #[.string ⟨#[]⟩, .int .i64 0, .int .i64 0, .int .i64 0, .int .i64 0, .slice none 0 0, .int .i64 0, .int .i64 0, .int .i64 0, .int .i64 0] (0, 0) _ (.int .i64 152) rfl rfl (setRow_heap _ _ _ _ _ _ HZ3.out) Try.underlying28 rfl ac_info
            case d => rfl
            exact mad_none 152 (below_setRow HB3.out (by omega) _)
        · have eE : grantE A node lease nodes = 152 := by unfold grantE; rw [if_pos hr, if_pos hok, if_neg fun h => hrd h.1]
          have eA : grantA A node lease nodes = ac0 := by unfold grantA; rw [eE]; rfl
          rw [eE, eA]
          clear eE eA
          clear h hw he hr hn hok LC
          unfold acval at *
          go_enter Try.func31, Try.ntmps31
          go_wp2_with fail
          obtain ⟨w1, ew, hb1, ha1, hz1⟩ := two_new w A a n c
          rw [← ew]
          have HB1 := hide hb1
          have HA1 := hide ha1
          have HZ1 := hide hz1
          clear hb1 ha1 hz1 ew
          obtain ⟨z0, z1, z2, z3, z4, z5, z6, z7, z8, z9⟩ := HA1.out.at_
          have hs1 : w.heap.size < w1.heap.size := HA1.out.lt
          have HZ1' : Hid (Zr w1 (w.heap.size + 1)) := HZ1.out.zr
          clear HZ1
          have HZ1 := HZ1'
          clear HZ1'
          refine ((CK _).out HB1.out).mono ?_
          rintro e w2 ⟨rfl, hb⟩
          have HB2 : Hid (Below w.heap.size w w2) := HB1.out.trans (hb.mono HB1.out.size)
          have HA2 := hide (HA1.out.below hb)
          have HZ2 := hide (HZ1.out.below hb)
          clear hb z0 z1 z2 z3 z4 z5 z6 z7 z8 z9
          obtain ⟨z0, z1, z2, z3, z4, z5, z6, z7, z8, z9⟩ := HA2.out.at_
          have hs2 : w.heap.size < w2.heap.size := HA2.out.lt
          have zf2 := HA2.out.fz
          go_upto_region 6 with (go_at_call 64; refine ((NU _).out).mono ?_; rintro e w' ⟨rfl, hw⟩; rw [hw]; clear hw)
          go_wp2_with (refine wpList_store_row rfl 28 (.tmp 8) (.tmp 45) rfl (w.heap.size + 1) #[.string ⟨#[]⟩, .int .i64 0, .int .i64 0, .int .i64 0, .int .i64 0, .slice none 0 0, .int .i64 0, .int .i64 0, .int .i64 0, .int .i64 0] rfl rfl 28 #[.string ⟨#[]⟩, .int .i64 0, .int .i64 0, .int .i64 0, .int .i64 0, .slice none 0 0, .int .i64 0, .int .i64 0, .int .i64 0, .int .i64 0] HZ2.out ac_info rfl (by simp [Value.oneCell']) ?_)
          refine bodyPost_ret (v := .tuple #[.agg #[.string ⟨#[]⟩, .int .i64 0, .int .i64 0, .int .i64 0, .int .i64 0, .slice none 0 0, .int .i64 0, .int .i64 0, .int .i64 0, .int .i64 0], .int .i64 152]) ?r ?d ?_
          case r => exact results_cell_tmp' rfl _ _ (w.heap.size + 1) 28 #[.string ⟨#[]⟩, .int .i64 0, .int .i64 0, .int .i64 0, .int .i64 0, .slice none 0 0, .int .i64 0, .int .i64 0, .int .i64 0, .int .i64 0] (0, 0) _ (.int .i64 152) rfl rfl (setRow_heap _ _ _ _ _ _ HZ2.out) Try.underlying28 rfl ac_info
          case d => rfl
          exact mad_none 152 (below_setRow HB2.out (by omega) _)
    · have hok : ¬ (1 ≤ nodes ∧ nodes ≤ 5 ∧ 1 ≤ node ∧ node ≤ nodes ∧ numB lease = true) := fun x => h1 ⟨x.2.2.1, x.2.2.2.1, x.2.1⟩
      by_cases g1 : node < 1
      · have eE : grantE A node lease nodes = 1 := by unfold grantE; rw [if_pos hr, if_neg hok]
        have eA : grantA A node lease nodes = ac0 := by unfold grantA; rw [eE]; rfl
        rw [eE, eA]
        clear eE eA
        clear h hw he hr hok h1 LC NU
        unfold acval at *
        go_enter Try.func31, Try.ntmps31
        go_wp2_with fail
        obtain ⟨w1, ew, hb1, ha1, hz1⟩ := two_new w A a n c
        rw [← ew]
        have HB1 := hide hb1
        have HA1 := hide ha1
        have HZ1 := hide hz1
        clear hb1 ha1 hz1 ew
        obtain ⟨z0, z1, z2, z3, z4, z5, z6, z7, z8, z9⟩ := HA1.out.at_
        have hs1 : w.heap.size < w1.heap.size := HA1.out.lt
        have HZ1' : Hid (Zr w1 (w.heap.size + 1)) := HZ1.out.zr
        clear HZ1
        have HZ1 := HZ1'
        clear HZ1'
        refine ((CK _).out HB1.out).mono ?_
        rintro e w2 ⟨rfl, hb⟩
        have HB2 : Hid (Below w.heap.size w w2) := HB1.out.trans (hb.mono HB1.out.size)
        have HA2 := hide (HA1.out.below hb)
        have HZ2 := hide (HZ1.out.below hb)
        clear hb z0 z1 z2 z3 z4 z5 z6 z7 z8 z9
        obtain ⟨z0, z1, z2, z3, z4, z5, z6, z7, z8, z9⟩ := HA2.out.at_
        have hs2 : w.heap.size < w2.heap.size := HA2.out.lt
        have zf2 := HA2.out.fz
        go_upto_region 4 with fail
        go_wp2_with (refine wpList_store_row rfl 28 (.tmp 8) (.tmp 36) rfl (w.heap.size + 1) #[.string ⟨#[]⟩, .int .i64 0, .int .i64 0, .int .i64 0, .int .i64 0, .slice none 0 0, .int .i64 0, .int .i64 0, .int .i64 0, .int .i64 0] rfl rfl 28 #[.string ⟨#[]⟩, .int .i64 0, .int .i64 0, .int .i64 0, .int .i64 0, .slice none 0 0, .int .i64 0, .int .i64 0, .int .i64 0, .int .i64 0] HZ2.out ac_info rfl (by simp [Value.oneCell']) ?_)
        refine bodyPost_ret (v := .tuple #[.agg #[.string ⟨#[]⟩, .int .i64 0, .int .i64 0, .int .i64 0, .int .i64 0, .slice none 0 0, .int .i64 0, .int .i64 0, .int .i64 0, .int .i64 0], .int .i64 1]) ?r ?d ?_
        case r => exact results_cell_tmp' rfl _ _ (w.heap.size + 1) 28 #[.string ⟨#[]⟩, .int .i64 0, .int .i64 0, .int .i64 0, .int .i64 0, .slice none 0 0, .int .i64 0, .int .i64 0, .int .i64 0, .int .i64 0] (0, 0) _ (.int .i64 1) rfl rfl (setRow_heap _ _ _ _ _ _ HZ2.out) Try.underlying28 rfl ac_info
        case d => rfl
        exact mad_none 1 (below_setRow HB2.out (by omega) _)
      by_cases g2 : nodes < node
      · have eE : grantE A node lease nodes = 1 := by unfold grantE; rw [if_pos hr, if_neg hok]
        have eA : grantA A node lease nodes = ac0 := by unfold grantA; rw [eE]; rfl
        rw [eE, eA]
        clear eE eA
        clear h hw he hr hok h1 LC NU
        unfold acval at *
        go_enter Try.func31, Try.ntmps31
        go_wp2_with fail
        obtain ⟨w1, ew, hb1, ha1, hz1⟩ := two_new w A a n c
        rw [← ew]
        have HB1 := hide hb1
        have HA1 := hide ha1
        have HZ1 := hide hz1
        clear hb1 ha1 hz1 ew
        obtain ⟨z0, z1, z2, z3, z4, z5, z6, z7, z8, z9⟩ := HA1.out.at_
        have hs1 : w.heap.size < w1.heap.size := HA1.out.lt
        have HZ1' : Hid (Zr w1 (w.heap.size + 1)) := HZ1.out.zr
        clear HZ1
        have HZ1 := HZ1'
        clear HZ1'
        refine ((CK _).out HB1.out).mono ?_
        rintro e w2 ⟨rfl, hb⟩
        have HB2 : Hid (Below w.heap.size w w2) := HB1.out.trans (hb.mono HB1.out.size)
        have HA2 := hide (HA1.out.below hb)
        have HZ2 := hide (HZ1.out.below hb)
        clear hb z0 z1 z2 z3 z4 z5 z6 z7 z8 z9
        obtain ⟨z0, z1, z2, z3, z4, z5, z6, z7, z8, z9⟩ := HA2.out.at_
        have hs2 : w.heap.size < w2.heap.size := HA2.out.lt
        have zf2 := HA2.out.fz
        go_upto_region 4 with fail
        go_wp2_with (refine wpList_store_row rfl 28 (.tmp 8) (.tmp 36) rfl (w.heap.size + 1) #[.string ⟨#[]⟩, .int .i64 0, .int .i64 0, .int .i64 0, .int .i64 0, .slice none 0 0, .int .i64 0, .int .i64 0, .int .i64 0, .int .i64 0] rfl rfl 28 #[.string ⟨#[]⟩, .int .i64 0, .int .i64 0, .int .i64 0, .int .i64 0, .slice none 0 0, .int .i64 0, .int .i64 0, .int .i64 0, .int .i64 0] HZ2.out ac_info rfl (by simp [Value.oneCell']) ?_)
        refine bodyPost_ret (v := .tuple #[.agg #[.string ⟨#[]⟩, .int .i64 0, .int .i64 0, .int .i64 0, .int .i64 0, .slice none 0 0, .int .i64 0, .int .i64 0, .int .i64 0, .int .i64 0], .int .i64 1]) ?r ?d ?_
        case r => exact results_cell_tmp' rfl _ _ (w.heap.size + 1) 28 #[.string ⟨#[]⟩, .int .i64 0, .int .i64 0, .int .i64 0, .int .i64 0, .slice none 0 0, .int .i64 0, .int .i64 0, .int .i64 0, .int .i64 0] (0, 0) _ (.int .i64 1) rfl rfl (setRow_heap _ _ _ _ _ _ HZ2.out) Try.underlying28 rfl ac_info
        case d => rfl
        exact mad_none 1 (below_setRow HB2.out (by omega) _)
      have g3 : 5 < nodes := by omega
      have eE : grantE A node lease nodes = 1 := by unfold grantE; rw [if_pos hr, if_neg hok]
      have eA : grantA A node lease nodes = ac0 := by unfold grantA; rw [eE]; rfl
      rw [eE, eA]
      clear eE eA
      clear h hw he hr hok h1 LC NU
      unfold acval at *
      go_enter Try.func31, Try.ntmps31
      go_wp2_with fail
      obtain ⟨w1, ew, hb1, ha1, hz1⟩ := two_new w A a n c
      rw [← ew]
      have HB1 := hide hb1
      have HA1 := hide ha1
      have HZ1 := hide hz1
      clear hb1 ha1 hz1 ew
      obtain ⟨z0, z1, z2, z3, z4, z5, z6, z7, z8, z9⟩ := HA1.out.at_
      have hs1 : w.heap.size < w1.heap.size := HA1.out.lt
      have HZ1' : Hid (Zr w1 (w.heap.size + 1)) := HZ1.out.zr
      clear HZ1
      have HZ1 := HZ1'
      clear HZ1'
      refine ((CK _).out HB1.out).mono ?_
      rintro e w2 ⟨rfl, hb⟩
      have HB2 : Hid (Below w.heap.size w w2) := HB1.out.trans (hb.mono HB1.out.size)
      have HA2 := hide (HA1.out.below hb)
      have HZ2 := hide (HZ1.out.below hb)
      clear hb z0 z1 z2 z3 z4 z5 z6 z7 z8 z9
      obtain ⟨z0, z1, z2, z3, z4, z5, z6, z7, z8, z9⟩ := HA2.out.at_
      have hs2 : w.heap.size < w2.heap.size := HA2.out.lt
      have zf2 := HA2.out.fz
      go_upto_region 4 with fail
      go_wp2_with (refine wpList_store_row rfl 28 (.tmp 8) (.tmp 36) rfl (w.heap.size + 1) #[.string ⟨#[]⟩, .int .i64 0, .int .i64 0, .int .i64 0, .int .i64 0, .slice none 0 0, .int .i64 0, .int .i64 0, .int .i64 0, .int .i64 0] rfl rfl 28 #[.string ⟨#[]⟩, .int .i64 0, .int .i64 0, .int .i64 0, .int .i64 0, .slice none 0 0, .int .i64 0, .int .i64 0, .int .i64 0, .int .i64 0] HZ2.out ac_info rfl (by simp [Value.oneCell']) ?_)
      refine bodyPost_ret (v := .tuple #[.agg #[.string ⟨#[]⟩, .int .i64 0, .int .i64 0, .int .i64 0, .int .i64 0, .slice none 0 0, .int .i64 0, .int .i64 0, .int .i64 0, .int .i64 0], .int .i64 1]) ?r ?d ?_
      case r => exact results_cell_tmp' rfl _ _ (w.heap.size + 1) 28 #[.string ⟨#[]⟩, .int .i64 0, .int .i64 0, .int .i64 0, .int .i64 0, .slice none 0 0, .int .i64 0, .int .i64 0, .int .i64 0, .int .i64 0] (0, 0) _ (.int .i64 1) rfl rfl (setRow_heap _ _ _ _ _ _ HZ2.out) Try.underlying28 rfl ac_info
      case d => rfl
      exact mad_none 1 (below_setRow HB2.out (by omega) _)
  · have e4 : checkE A = 21 := by unfold checkE; rw [if_neg hr]
    rw [e4] at CK
    clear e4
    have eE : grantE A node lease nodes = 21 := by unfold grantE; rw [if_neg hr]
    have eA : grantA A node lease nodes = ac0 := by unfold grantA; rw [eE]; rfl
    rw [eE, eA]
    clear eE eA
    clear hr h hw he LC NU
    unfold acval at *
    go_enter Try.func31, Try.ntmps31
    go_wp2_with fail
    obtain ⟨w1, ew, hb1, ha1, hz1⟩ := two_new w A a n c
    rw [← ew]
    have HB1 := hide hb1
    have HA1 := hide ha1
    have HZ1 := hide hz1
    clear hb1 ha1 hz1 ew
    obtain ⟨z0, z1, z2, z3, z4, z5, z6, z7, z8, z9⟩ := HA1.out.at_
    have hs1 : w.heap.size < w1.heap.size := HA1.out.lt
    have HZ1' : Hid (Zr w1 (w.heap.size + 1)) := HZ1.out.zr
    clear HZ1
    have HZ1 := HZ1'
    clear HZ1'
    refine ((CK _).out HB1.out).mono ?_
    rintro e w2 ⟨rfl, hb⟩
    have HB2 : Hid (Below w.heap.size w w2) := HB1.out.trans (hb.mono HB1.out.size)
    have HA2 := hide (HA1.out.below hb)
    have HZ2 := hide (HZ1.out.below hb)
    clear hb z0 z1 z2 z3 z4 z5 z6 z7 z8 z9
    obtain ⟨z0, z1, z2, z3, z4, z5, z6, z7, z8, z9⟩ := HA2.out.at_
    have hs2 : w.heap.size < w2.heap.size := HA2.out.lt
    have zf2 := HA2.out.fz
    go_upto_region 2 with fail
    go_wp2_with (refine wpList_store_row rfl 28 (.tmp 8) (.tmp 18) rfl (w.heap.size + 1) #[.string ⟨#[]⟩, .int .i64 0, .int .i64 0, .int .i64 0, .int .i64 0, .slice none 0 0, .int .i64 0, .int .i64 0, .int .i64 0, .int .i64 0] rfl rfl 28 #[.string ⟨#[]⟩, .int .i64 0, .int .i64 0, .int .i64 0, .int .i64 0, .slice none 0 0, .int .i64 0, .int .i64 0, .int .i64 0, .int .i64 0] HZ2.out ac_info rfl (by simp [Value.oneCell']) ?_)
    refine bodyPost_ret (v := .tuple #[.agg #[.string ⟨#[]⟩, .int .i64 0, .int .i64 0, .int .i64 0, .int .i64 0, .slice none 0 0, .int .i64 0, .int .i64 0, .int .i64 0, .int .i64 0], .int .i64 21]) ?r ?d ?_
    case r => exact results_cell_tmp' rfl _ _ (w.heap.size + 1) 28 #[.string ⟨#[]⟩, .int .i64 0, .int .i64 0, .int .i64 0, .int .i64 0, .slice none 0 0, .int .i64 0, .int .i64 0, .int .i64 0, .int .i64 0] (0, 0) _ (.int .i64 21) rfl rfl (setRow_heap _ _ _ _ _ _ HZ2.out) Try.underlying28 rfl ac_info
    case d => rfl
    exact mad_none 21 (below_setRow HB2.out (by omega) _)
end Go.Proofs.Ytfolpnjndlklkaa
