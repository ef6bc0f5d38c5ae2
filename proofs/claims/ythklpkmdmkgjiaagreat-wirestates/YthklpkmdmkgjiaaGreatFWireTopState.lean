/- What the landed State and ReadState do. No condition but the size. -/
import Derived.Test.YthklpkmdmkgjiaaGreatFWireStateVal
import Derived.Deep.Cut
namespace Go.Proofs.YthklpkmdmkgjiaaGreat
open Go.ChangeShapes Go.WideShapes Go.ChangeAt Go.RowKit B8 Cm Wm
set_option linter.unusedVariables false

set_option maxRecDepth 100000 in
set_option maxHeartbeats 1000000 in
theorem cwritten_state {w : World} {cs : Array Value} {x : Sta} (h : StaV w (fun b => b < w.heap.size) cs x) (hk : StaK x) :
    Calls Tryz.prog 12 #[.agg cs, .func (.func 13) #[] #[]] w fun e w' => ∃ a cp, e = .returned (.tuple #[.slice a (wBytes x.flds).length cp, .int .i64 (wErr x.flds)]) ∧ Mine w' w.heap.size a (wBytes x.flds).length cp (wBytes x.flds) ∧ Below w.heap.size w w' := by
  have hb1 : Below w.heap.size w (w.alloc (.cells cs 31)) := Below.alloc (Below.refl _ _) (Nat.le_refl _) _
  have hb2 : Below w.heap.size w ((w.alloc (.cells cs 31)).alloc (.cells #[.slice none 0 0, .bool false] 78)) := below_alloc hb1 _
  have ws : WS ((w.alloc (.cells cs 31)).alloc (.cells #[.slice none 0 0, .bool false] 78)) w.heap.size (w.heap.size + 1) [] := by
    have := ws_new (B := w.heap.size) (w.alloc (.cells cs 31)) hb1.size
    simpa using this
  have hn : ∀ k, Wown (w.heap.size + 1) ((w.alloc (.cells cs 31)).alloc (.cells #[.slice none 0 0, .bool false] 78)) k → k = w.heap.size + 1 := by
    intro k hk
    have := wown_first (w.alloc (.cells cs 31)) (k := k)
    simp only [World.size_alloc] at this
    exact this hk
  have hm : ((w.alloc (.cells cs 31)).alloc (.cells #[.slice none 0 0, .bool false] 78)).heap[w.heap.size]? = some (.cells cs 31) := heap_alloc2_old w _ _
  have hM : w.heap.size < ((w.alloc (.cells cs 31)).alloc (.cells #[.slice none 0 0, .bool false] 78)).heap.size := by simp; omega
  have hS : ¬ Wown (w.heap.size + 1) ((w.alloc (.cells cs 31)).alloc (.cells #[.slice none 0 0, .bool false] 78)) w.heap.size := fun e => by have := hn _ e; omega
  have fl := staAt_of hm (h.same (w1 := (w.alloc (.cells cs 31)).alloc (.cells #[.slice none 0 0, .bool false] 78)) (P' := Out (Wown (w.heap.size + 1)) w.heap.size ((w.alloc (.cells cs 31)).alloc (.cells #[.slice none 0 0, .bool false] 78))) fun b hb => ⟨⟨by omega, fun e => by have := hn _ e; omega, by omega⟩, hb2.block b hb⟩)
  have C1 := hide (wstate_any (fs := []) ws (Nat.le_trans (Nat.le_refl _) hb2.size) fl hk (fun q => frozen_of_row _ _ _ _ _ hm) hS)
  have hlow : ∀ k, Wown (w.heap.size + 1) ((w.alloc (.cells cs 31)).alloc (.cells #[.slice none 0 0, .bool false] 78)) k → w.heap.size ≤ k := fun k hk => by have := hn _ hk; omega
  have HLOW := hide hlow
  have HB2 := hide hb2
  have hsz : cs.size = 29 := h.size
  have HM := hide hm
  clear hb1 hb2 ws hn hm hM hS fl hlow h hk
  go_enter Tryz.func12, Tryz.ntmps12
  go_wp2_with fail
  refine C1.out.mono ?_
  rintro e w3 ⟨rfl, hw, hs⟩
  have B3 := hide (HB2.out.trans (hs.below HB2.out.size HLOW.out (Nat.le_refl _)))
  have CE := hide (wend_any hw)
  clear hw hs C1 HLOW HB2 HM
  go_wp2_with fail
  refine CE.out.mono ?_
  rintro e w4 ⟨a, cp, rfl, hm4, rfl⟩
  have M4 := hide hm4
  clear hm4 CE
  go_wp2_with fail
  go_ret2
  exact ⟨a, cp, rfl, M4.out, B3.out⟩

theorem info_state : (Tryz.prog.info? 31).map (·.size) = some 29 := by kernel_rfl
set_option maxRecDepth 100000 in
set_option maxHeartbeats 2000000 in
theorem ctaken_state {w : World} {a : Option Addr} {n cp : Nat} {bs : List Int} (q : Sq w a n cp bs) (hn : n ≤ 140737488355328) :
    Calls Tryz.prog 17 #[.slice a n cp, .func (.func 13) #[] #[]] w fun e w' => ∃ cs, e = .returned (.tuple #[.agg cs, .int .i64 (sErr bs)]) ∧ StaV w' (fun b => w.heap.size ≤ b ∧ b < w'.heap.size) cs (sVal bs) ∧ Below w.heap.size w w' := by
  have hzv : ∀ (u : World) (P : Nat → Prop), StaV u P #[.int .i64 0, .int .i64 0, .bool false, .string ⟨#[]⟩, .string ⟨#[]⟩, .int .i64 0, .slice none 0 0, .slice none 0 0, .slice none 0 0, .slice none 0 0, .slice none 0 0, .int .i64 0, .int .i64 0, .int .i64 0, .string ⟨#[]⟩, .string ⟨#[]⟩, .int .i64 0, .int .i64 0, .int .i64 0, .int .i64 0, .int .i64 0, .string ⟨#[]⟩, .string ⟨#[]⟩, .int .i64 0, .int .i64 0, .slice none 0 0, .int .i64 0, .int .i64 0, .int .i64 0] zeroS := staV_zero
  have HZ := hide hzv
  obtain ⟨w3, e3⟩ : ∃ w3, w3 = ((w.alloc (.cells #[.int .i64 0, .int .i64 0, .bool false, .string ⟨#[]⟩, .string ⟨#[]⟩, .int .i64 0, .slice none 0 0, .slice none 0 0, .slice none 0 0, .slice none 0 0, .slice none 0 0, .int .i64 0, .int .i64 0, .int .i64 0, .string ⟨#[]⟩, .string ⟨#[]⟩, .int .i64 0, .int .i64 0, .int .i64 0, .int .i64 0, .int .i64 0, .string ⟨#[]⟩, .string ⟨#[]⟩, .int .i64 0, .int .i64 0, .slice none 0 0, .int .i64 0, .int .i64 0, .int .i64 0] 31)).alloc (.cells #[.int .i64 0, .int .i64 0, .bool false, .string ⟨#[]⟩, .string ⟨#[]⟩, .int .i64 0, .slice none 0 0, .slice none 0 0, .slice none 0 0, .slice none 0 0, .slice none 0 0, .int .i64 0, .int .i64 0, .int .i64 0, .string ⟨#[]⟩, .string ⟨#[]⟩, .int .i64 0, .int .i64 0, .int .i64 0, .int .i64 0, .int .i64 0, .string ⟨#[]⟩, .string ⟨#[]⟩, .int .i64 0, .int .i64 0, .slice none 0 0, .int .i64 0, .int .i64 0, .int .i64 0] 31)).alloc (.cells #[.int .i64 0, .int .i64 0, .bool false, .string ⟨#[]⟩, .string ⟨#[]⟩, .int .i64 0, .slice none 0 0, .slice none 0 0, .slice none 0 0, .slice none 0 0, .slice none 0 0, .int .i64 0, .int .i64 0, .int .i64 0, .string ⟨#[]⟩, .string ⟨#[]⟩, .int .i64 0, .int .i64 0, .int .i64 0, .int .i64 0, .int .i64 0, .string ⟨#[]⟩, .string ⟨#[]⟩, .int .i64 0, .int .i64 0, .slice none 0 0, .int .i64 0, .int .i64 0, .int .i64 0] 31) := ⟨_, rfl⟩
  have b3 : Below w.heap.size w w3 := by rw [e3]; exact below_alloc (below_alloc (below_alloc (Below.refl _ _) _) _) _
  have s3 : w3.heap.size = w.heap.size + 3 := by rw [e3]; simp
  have r0 : w3.heap[w.heap.size]? = some (.cells #[.int .i64 0, .int .i64 0, .bool false, .string ⟨#[]⟩, .string ⟨#[]⟩, .int .i64 0, .slice none 0 0, .slice none 0 0, .slice none 0 0, .slice none 0 0, .slice none 0 0, .int .i64 0, .int .i64 0, .int .i64 0, .string ⟨#[]⟩, .string ⟨#[]⟩, .int .i64 0, .int .i64 0, .int .i64 0, .int .i64 0, .int .i64 0, .string ⟨#[]⟩, .string ⟨#[]⟩, .int .i64 0, .int .i64 0, .slice none 0 0, .int .i64 0, .int .i64 0, .int .i64 0] 31) := by rw [e3, heap_alloc_old _ _ (by simp; omega)]; exact heap_alloc2_old w _ _
  have r1 : w3.heap[w.heap.size + 1]? = some (.cells #[.int .i64 0, .int .i64 0, .bool false, .string ⟨#[]⟩, .string ⟨#[]⟩, .int .i64 0, .slice none 0 0, .slice none 0 0, .slice none 0 0, .slice none 0 0, .slice none 0 0, .int .i64 0, .int .i64 0, .int .i64 0, .string ⟨#[]⟩, .string ⟨#[]⟩, .int .i64 0, .int .i64 0, .int .i64 0, .int .i64 0, .int .i64 0, .string ⟨#[]⟩, .string ⟨#[]⟩, .int .i64 0, .int .i64 0, .slice none 0 0, .int .i64 0, .int .i64 0, .int .i64 0] 31) := by rw [e3, heap_alloc_old _ _ (by simp)]; exact heap_alloc2_new w _ _
  have r2 : w3.heap[w.heap.size + 2]? = some (.cells #[.int .i64 0, .int .i64 0, .bool false, .string ⟨#[]⟩, .string ⟨#[]⟩, .int .i64 0, .slice none 0 0, .slice none 0 0, .slice none 0 0, .slice none 0 0, .slice none 0 0, .int .i64 0, .int .i64 0, .int .i64 0, .string ⟨#[]⟩, .string ⟨#[]⟩, .int .i64 0, .int .i64 0, .int .i64 0, .int .i64 0, .int .i64 0, .string ⟨#[]⟩, .string ⟨#[]⟩, .int .i64 0, .int .i64 0, .slice none 0 0, .int .i64 0, .int .i64 0, .int .i64 0] 31) := by
    rw [e3]
    have := heap_alloc_new ((w.alloc (.cells #[.int .i64 0, .int .i64 0, .bool false, .string ⟨#[]⟩, .string ⟨#[]⟩, .int .i64 0, .slice none 0 0, .slice none 0 0, .slice none 0 0, .slice none 0 0, .slice none 0 0, .int .i64 0, .int .i64 0, .int .i64 0, .string ⟨#[]⟩, .string ⟨#[]⟩, .int .i64 0, .int .i64 0, .int .i64 0, .int .i64 0, .int .i64 0, .string ⟨#[]⟩, .string ⟨#[]⟩, .int .i64 0, .int .i64 0, .slice none 0 0, .int .i64 0, .int .i64 0, .int .i64 0] 31)).alloc (.cells #[.int .i64 0, .int .i64 0, .bool false, .string ⟨#[]⟩, .string ⟨#[]⟩, .int .i64 0, .slice none 0 0, .slice none 0 0, .slice none 0 0, .slice none 0 0, .slice none 0 0, .int .i64 0, .int .i64 0, .int .i64 0, .string ⟨#[]⟩, .string ⟨#[]⟩, .int .i64 0, .int .i64 0, .int .i64 0, .int .i64 0, .int .i64 0, .string ⟨#[]⟩, .string ⟨#[]⟩, .int .i64 0, .int .i64 0, .slice none 0 0, .int .i64 0, .int .i64 0, .int .i64 0] 31)) (.cells #[.int .i64 0, .int .i64 0, .bool false, .string ⟨#[]⟩, .string ⟨#[]⟩, .int .i64 0, .slice none 0 0, .slice none 0 0, .slice none 0 0, .slice none 0 0, .slice none 0 0, .int .i64 0, .int .i64 0, .int .i64 0, .string ⟨#[]⟩, .string ⟨#[]⟩, .int .i64 0, .int .i64 0, .int .i64 0, .int .i64 0, .int .i64 0, .string ⟨#[]⟩, .string ⟨#[]⟩, .int .i64 0, .int .i64 0, .slice none 0 0, .int .i64 0, .int .i64 0, .int .i64 0] 31)
    simpa using this
  have HL := hide q.length
  have B3 := hide b3
  have S3 := hide s3
  have R0 := hide r0
  have R1 := hide r1
  have R2 := hide r2
  have Q := hide q
  have E3 := hide e3.symm
  clear hzv b3 s3 r0 r1 r2 q e3
  -- the end: a row is laid into the result
  have LAY : ∀ (u : World) (cs : Array Value) (x : Sta), u.heap[w.heap.size]? = some (.cells #[.int .i64 0, .int .i64 0, .bool false, .string ⟨#[]⟩, .string ⟨#[]⟩, .int .i64 0, .slice none 0 0, .slice none 0 0, .slice none 0 0, .slice none 0 0, .slice none 0 0, .int .i64 0, .int .i64 0, .int .i64 0, .string ⟨#[]⟩, .string ⟨#[]⟩, .int .i64 0, .int .i64 0, .int .i64 0, .int .i64 0, .int .i64 0, .string ⟨#[]⟩, .string ⟨#[]⟩, .int .i64 0, .int .i64 0, .slice none 0 0, .int .i64 0, .int .i64 0, .int .i64 0] 31) → Below w.heap.size w u → StaV u (fun b => w.heap.size < b ∧ b < u.heap.size) cs x → cs.size = 29 →
      (u.setRow w.heap.size cs).heap[w.heap.size]? = some (.cells cs 31) ∧ StaV (u.setRow w.heap.size cs) (fun b => w.heap.size ≤ b ∧ b < (u.setRow w.heap.size cs).heap.size) cs x ∧ Below w.heap.size w (u.setRow w.heap.size cs) := by
    intro u cs x hu hb hv hs
    have hother : ∀ b, b ≠ w.heap.size → (u.setRow w.heap.size cs).heap[b]? = u.heap[b]? := fun b hb => by simp only [World.setRow, Array.getElem?_modify]; rw [if_neg (fun e => hb e.symm)]
    refine ⟨setRow_heap u _ _ cs _ _ hu, hv.same fun b hb => ⟨⟨by omega, by rw [size_setRow]; omega⟩, hother b (by omega)⟩, hb.os, hb.tape, hb.output, by rw [size_setRow]; exact hb.size, fun k hk => (hother k (by omega)).trans (hb.block k hk)⟩
  have LAY := hide LAY
  by_cases hl : 65536 < n
  · have TE : Hid (sErr bs = 22) := sErr_long (by rw [HL.out]; exact hl)
    have TV : Hid (sVal bs = zeroS) := sVal_bad (by rw [TE.out]; decide)
    have i1 : (65536 : Int) < (n : Int) := by omega
    have L1 := hide (LAY.out w3 #[.int .i64 0, .int .i64 0, .bool false, .string ⟨#[]⟩, .string ⟨#[]⟩, .int .i64 0, .slice none 0 0, .slice none 0 0, .slice none 0 0, .slice none 0 0, .slice none 0 0, .int .i64 0, .int .i64 0, .int .i64 0, .string ⟨#[]⟩, .string ⟨#[]⟩, .int .i64 0, .int .i64 0, .int .i64 0, .int .i64 0, .int .i64 0, .string ⟨#[]⟩, .string ⟨#[]⟩, .int .i64 0, .int .i64 0, .slice none 0 0, .int .i64 0, .int .i64 0, .int .i64 0] zeroS R0.out B3.out (HZ.out _ _) rfl)
    rw [TE.out, TV.out]
    have ONE := hide (HZ.out w3 (fun _ => True)).one
    clear LAY
    go_enter Tryz.func17, Tryz.ntmps17
    go_upto_region 3 with fail
    rw [E3.out]
    go_wp2_with (first | (refine wpList_load_row rfl 31 (.tmp 7) rfl (w.heap.size + 2) rfl 31 #[.int .i64 0, .int .i64 0, .bool false, .string ⟨#[]⟩, .string ⟨#[]⟩, .int .i64 0, .slice none 0 0, .slice none 0 0, .slice none 0 0, .slice none 0 0, .slice none 0 0, .int .i64 0, .int .i64 0, .int .i64 0, .string ⟨#[]⟩, .string ⟨#[]⟩, .int .i64 0, .int .i64 0, .int .i64 0, .int .i64 0, .int .i64 0, .string ⟨#[]⟩, .string ⟨#[]⟩, .int .i64 0, .int .i64 0, .slice none 0 0, .int .i64 0, .int .i64 0, .int .i64 0] (0, 0) _ R2.out Tryz.underlying31 rfl info_state ?_) | (refine wpList_store_row rfl 31 (.tmp 4) (.tmp 13) rfl w.heap.size #[.int .i64 0, .int .i64 0, .bool false, .string ⟨#[]⟩, .string ⟨#[]⟩, .int .i64 0, .slice none 0 0, .slice none 0 0, .slice none 0 0, .slice none 0 0, .slice none 0 0, .int .i64 0, .int .i64 0, .int .i64 0, .string ⟨#[]⟩, .string ⟨#[]⟩, .int .i64 0, .int .i64 0, .int .i64 0, .int .i64 0, .int .i64 0, .string ⟨#[]⟩, .string ⟨#[]⟩, .int .i64 0, .int .i64 0, .slice none 0 0, .int .i64 0, .int .i64 0, .int .i64 0] rfl rfl 31 #[.int .i64 0, .int .i64 0, .bool false, .string ⟨#[]⟩, .string ⟨#[]⟩, .int .i64 0, .slice none 0 0, .slice none 0 0, .slice none 0 0, .slice none 0 0, .slice none 0 0, .int .i64 0, .int .i64 0, .int .i64 0, .string ⟨#[]⟩, .string ⟨#[]⟩, .int .i64 0, .int .i64 0, .int .i64 0, .int .i64 0, .int .i64 0, .string ⟨#[]⟩, .string ⟨#[]⟩, .int .i64 0, .int .i64 0, .slice none 0 0, .int .i64 0, .int .i64 0, .int .i64 0] R0.out info_state rfl ONE.out ?_))
    refine bodyPost_ret (v := .tuple #[.agg #[.int .i64 0, .int .i64 0, .bool false, .string ⟨#[]⟩, .string ⟨#[]⟩, .int .i64 0, .slice none 0 0, .slice none 0 0, .slice none 0 0, .slice none 0 0, .slice none 0 0, .int .i64 0, .int .i64 0, .int .i64 0, .string ⟨#[]⟩, .string ⟨#[]⟩, .int .i64 0, .int .i64 0, .int .i64 0, .int .i64 0, .int .i64 0, .string ⟨#[]⟩, .string ⟨#[]⟩, .int .i64 0, .int .i64 0, .slice none 0 0, .int .i64 0, .int .i64 0, .int .i64 0], .int .i64 22]) ?r ?d ?_
    case r => exact results_cell_tmp rfl _ _ w.heap.size 31 #[.int .i64 0, .int .i64 0, .bool false, .string ⟨#[]⟩, .string ⟨#[]⟩, .int .i64 0, .slice none 0 0, .slice none 0 0, .slice none 0 0, .slice none 0 0, .slice none 0 0, .int .i64 0, .int .i64 0, .int .i64 0, .string ⟨#[]⟩, .string ⟨#[]⟩, .int .i64 0, .int .i64 0, .int .i64 0, .int .i64 0, .int .i64 0, .string ⟨#[]⟩, .string ⟨#[]⟩, .int .i64 0, .int .i64 0, .slice none 0 0, .int .i64 0, .int .i64 0, .int .i64 0] (0, 0) _ (.int .i64 22) rfl rfl L1.out.1 Tryz.underlying31 rfl info_state
    case d => rfl
    exact ⟨_, rfl, L1.out.2.1, L1.out.2.2⟩
  · have TE : Hid (sErr bs = endA bs (stateA bs ⟨0, 0⟩).s) := sErr_short (by rw [HL.out]; exact hl)
    have i1 : (n : Int) ≤ (65536 : Int) := by omega
    have CN := hide (cnew_any (Q.out.below B3.out) hn)
    go_enter Tryz.func17, Tryz.ntmps17
    go_upto_region 4 with fail
    rw [E3.out]
    go_wp2_with fail
    refine CN.out.mono ?_
    rintro e w4 ⟨R, rfl, hm4, hb4, hR4⟩
    have s4 : w.heap.size + 3 ≤ w4.heap.size := by rw [← S3.out]; exact hb4.size
    obtain ⟨ad, cpd, rs, hho⟩ := rs_new (B := w.heap.size + 3) s4 hm4 hR4 (show n ≤ 65536 by omega)
    have b5 : Below w3.heap.size w3 (w4.alloc (.cells #[.pointer (some ⟨R, 0, none⟩), .bool false] 135)) := below_alloc hb4 _
    have hR : w.heap.size + 3 ≤ R := by rw [← S3.out]; exact hR4
    have far : Far w4.heap.size R ad (w.heap.size + 1) := ⟨by omega, by omega, fun b off e => by have := hho b off e; rw [S3.out] at this; omega⟩
    have hM : w.heap.size + 1 < (w4.alloc (.cells #[.pointer (some ⟨R, 0, none⟩), .bool false] 135)).heap.size := by simp; omega
    have rm : ∀ k, k < w3.heap.size → (w4.alloc (.cells #[.pointer (some ⟨R, 0, none⟩), .bool false] 135)).heap[k]? = w3.heap[k]? := fun k hk => b5.block k hk
    have q1 : (w4.alloc (.cells #[.pointer (some ⟨R, 0, none⟩), .bool false] 135)).heap[w.heap.size + 1]? = some (.cells #[.int .i64 0, .int .i64 0, .bool false, .string ⟨#[]⟩, .string ⟨#[]⟩, .int .i64 0, .slice none 0 0, .slice none 0 0, .slice none 0 0, .slice none 0 0, .slice none 0 0, .int .i64 0, .int .i64 0, .int .i64 0, .string ⟨#[]⟩, .string ⟨#[]⟩, .int .i64 0, .int .i64 0, .int .i64 0, .int .i64 0, .int .i64 0, .string ⟨#[]⟩, .string ⟨#[]⟩, .int .i64 0, .int .i64 0, .slice none 0 0, .int .i64 0, .int .i64 0, .int .i64 0] 31) := by rw [rm _ (by rw [S3.out]; omega)]; exact R1.out
    have room : Room (w4.alloc (.cells #[.pointer (some ⟨R, 0, none⟩), .bool false] 135)) (w.heap.size + 1) 0 29 := fun j hj => by
      refine ⟨⟨_, by rw [cell_of_row _ _ _ _ _ _ q1]; exact Array.getElem?_eq_getElem (by show 0 + j < 29; omega)⟩, frozen_of_row _ _ _ _ _ q1⟩
    have none0 : (w4.alloc (.cells #[.pointer (some ⟨R, 0, none⟩), .bool false] 135)).cell? ⟨w.heap.size + 1, 29, none⟩ = none := by rw [cell_of_row _ _ _ _ _ _ q1]; rfl
    have CW := hide (rstate_any rs far (by omega) hM room (five q1))
    have B5 := hide (below_step B3.out b5)
    have q0 : (w4.alloc (.cells #[.pointer (some ⟨R, 0, none⟩), .bool false] 135)).heap[w.heap.size]? = some (.cells #[.int .i64 0, .int .i64 0, .bool false, .string ⟨#[]⟩, .string ⟨#[]⟩, .int .i64 0, .slice none 0 0, .slice none 0 0, .slice none 0 0, .slice none 0 0, .slice none 0 0, .int .i64 0, .int .i64 0, .int .i64 0, .string ⟨#[]⟩, .string ⟨#[]⟩, .int .i64 0, .int .i64 0, .int .i64 0, .int .i64 0, .int .i64 0, .string ⟨#[]⟩, .string ⟨#[]⟩, .int .i64 0, .int .i64 0, .slice none 0 0, .int .i64 0, .int .i64 0, .int .i64 0] 31) := by rw [rm _ (by rw [S3.out]; omega)]; exact R0.out
    have q2 : (w4.alloc (.cells #[.pointer (some ⟨R, 0, none⟩), .bool false] 135)).heap[w.heap.size + 2]? = some (.cells #[.int .i64 0, .int .i64 0, .bool false, .string ⟨#[]⟩, .string ⟨#[]⟩, .int .i64 0, .slice none 0 0, .slice none 0 0, .slice none 0 0, .slice none 0 0, .slice none 0 0, .int .i64 0, .int .i64 0, .int .i64 0, .string ⟨#[]⟩, .string ⟨#[]⟩, .int .i64 0, .int .i64 0, .int .i64 0, .int .i64 0, .int .i64 0, .string ⟨#[]⟩, .string ⟨#[]⟩, .int .i64 0, .int .i64 0, .slice none 0 0, .int .i64 0, .int .i64 0, .int .i64 0] 31) := by rw [rm _ (by rw [S3.out]; omega)]; exact R2.out
    have Q0 := hide q0
    have Q2 := hide q2
    have N0 := hide none0
    have SZ : Hid (w.heap.size + 3 ≤ w4.heap.size ∧ w.heap.size + 3 ≤ R) := ⟨s4, hR⟩
    clear hm4 hb4 hR4 rs hho b5 s4 hR far hM rm q1 room none0 CN R0 R1 R2 E3 Q B3 q0 q2
    go_wp2_with fail
    refine CW.out.mono ?_
    rintro e w6 ⟨rfl, h1, h2, h3⟩
    have CE := hide (rend_any h1)
    have nS : ∀ k, k < w.heap.size + 3 → ¬ Rown w4.heap.size R (w4.alloc (.cells #[.pointer (some ⟨R, 0, none⟩), .bool false] 135)) k := fun k hk e => by
      have := SZ.out
      rcases e with e | e <;> omega
    have big : w.heap.size + 3 < (w4.alloc (.cells #[.pointer (some ⟨R, 0, none⟩), .bool false] 135)).heap.size := by have := SZ.out.1; simp; omega
    have q0 : w6.heap[w.heap.size]? = some (.cells #[.int .i64 0, .int .i64 0, .bool false, .string ⟨#[]⟩, .string ⟨#[]⟩, .int .i64 0, .slice none 0 0, .slice none 0 0, .slice none 0 0, .slice none 0 0, .slice none 0 0, .int .i64 0, .int .i64 0, .int .i64 0, .string ⟨#[]⟩, .string ⟨#[]⟩, .int .i64 0, .int .i64 0, .int .i64 0, .int .i64 0, .int .i64 0, .string ⟨#[]⟩, .string ⟨#[]⟩, .int .i64 0, .int .i64 0, .slice none 0 0, .int .i64 0, .int .i64 0, .int .i64 0] 31) := (h3.block _ (by omega) (nS _ (by omega)) (by omega)).trans Q0.out
    have q2 : w6.heap[w.heap.size + 2]? = some (.cells #[.int .i64 0, .int .i64 0, .bool false, .string ⟨#[]⟩, .string ⟨#[]⟩, .int .i64 0, .slice none 0 0, .slice none 0 0, .slice none 0 0, .slice none 0 0, .slice none 0 0, .int .i64 0, .int .i64 0, .int .i64 0, .string ⟨#[]⟩, .string ⟨#[]⟩, .int .i64 0, .int .i64 0, .int .i64 0, .int .i64 0, .int .i64 0, .string ⟨#[]⟩, .string ⟨#[]⟩, .int .i64 0, .int .i64 0, .slice none 0 0, .int .i64 0, .int .i64 0, .int .i64 0] 31) := (h3.block _ (by omega) (nS _ (by omega)) (by omega)).trans Q2.out
    have b6 : Below w.heap.size w w6 := B5.out.trans (h3.below B5.out.size (fun k hk => by have := SZ.out; rcases hk with hk | hk <;> omega) (by omega))
    have none6 : w6.cell? ⟨w.heap.size + 1, 29, none⟩ = none := (h3.cell 29 (by show ¬ (0 ≤ 29 ∧ 29 < 29); omega)).trans N0.out
    have FL := hide h2
    have HQ0 := hide q0
    have HQ2 := hide q2
    have B6 := hide b6
    have N6 := hide none6
    clear h1 h2 h3 CW q0 q2 b6 none6 big nS Q0 Q2 N0 B5
    go_wp2_with fail
    refine CE.out.mono ?_
    rintro e w7 ⟨rfl, m7, e7⟩
    have HQ0' : Hid (w7.heap[w.heap.size]? = some (.cells #[.int .i64 0, .int .i64 0, .bool false, .string ⟨#[]⟩, .string ⟨#[]⟩, .int .i64 0, .slice none 0 0, .slice none 0 0, .slice none 0 0, .slice none 0 0, .slice none 0 0, .int .i64 0, .int .i64 0, .int .i64 0, .string ⟨#[]⟩, .string ⟨#[]⟩, .int .i64 0, .int .i64 0, .int .i64 0, .int .i64 0, .int .i64 0, .string ⟨#[]⟩, .string ⟨#[]⟩, .int .i64 0, .int .i64 0, .slice none 0 0, .int .i64 0, .int .i64 0, .int .i64 0] 31)) := by rw [e7]; exact HQ0.out
    have HQ2' : Hid (w7.heap[w.heap.size + 2]? = some (.cells #[.int .i64 0, .int .i64 0, .bool false, .string ⟨#[]⟩, .string ⟨#[]⟩, .int .i64 0, .slice none 0 0, .slice none 0 0, .slice none 0 0, .slice none 0 0, .slice none 0 0, .int .i64 0, .int .i64 0, .int .i64 0, .string ⟨#[]⟩, .string ⟨#[]⟩, .int .i64 0, .int .i64 0, .int .i64 0, .int .i64 0, .int .i64 0, .string ⟨#[]⟩, .string ⟨#[]⟩, .int .i64 0, .int .i64 0, .slice none 0 0, .int .i64 0, .int .i64 0, .int .i64 0] 31)) := by rw [e7]; exact HQ2.out
    have B7 : Hid (Below w.heap.size w w7) := by rw [e7]; exact below_drewN B6.out m7
    by_cases he : endA bs (stateA bs ⟨0, 0⟩).s = 0
    · have TE0 : Hid (sErr bs = 0) := by show _ = _; rw [TE.out]; exact he
      have TV : Hid (sVal bs = (stateA bs ⟨0, 0⟩).v) := sVal_good TE0.out
      have fl := FL.out (endA_zero he)
      have fl7 : StaAt w7 (OutB (w.heap.size + 3) (Rown w4.heap.size R) (w.heap.size + 1) w6) (w.heap.size + 1) 0 (stateA bs ⟨0, 0⟩).v := by rw [e7]; exact StaC.same fl (fun j _ => rfl) (stateK_A bs _) (fun b hb => ⟨hb, rfl⟩)
      obtain ⟨cs, tt, fr, hrow, hcs⟩ := row_of_cells (w := w7) (M := w.heap.size + 1) (N := 29) (by omega) (fun j hj => by obtain ⟨v, h1, _⟩ := StaC.cell fl7 (stateK_A bs _) j hj; exact ⟨v, by simpa using h1⟩) (by rw [e7]; exact N6.out)
      have vv := staV_of hrow hcs (stateK_A bs _) fl7
      have vv' : StaV w7 (fun b => w.heap.size < b ∧ b < w7.heap.size) cs (stateA bs ⟨0, 0⟩).v := vv.same fun b hb => ⟨⟨by have := hb.1; omega, by have := hb.2.1; rw [e7]; exact this⟩, rfl⟩
      have L1 := hide (LAY.out w7 cs _ HQ0'.out B7.out vv' hcs)
      have ONE := hide vv'.one
      have ROW := hide hrow
      have INF : Hid ((Tryz.prog.info? 31).map (·.size) = some cs.size) := by show _ = _; rw [hcs]; exact info_state
      have SZC : Hid ((#[.int .i64 0, .int .i64 0, .bool false, .string ⟨#[]⟩, .string ⟨#[]⟩, .int .i64 0, .slice none 0 0, .slice none 0 0, .slice none 0 0, .slice none 0 0, .slice none 0 0, .int .i64 0, .int .i64 0, .int .i64 0, .string ⟨#[]⟩, .string ⟨#[]⟩, .int .i64 0, .int .i64 0, .int .i64 0, .int .i64 0, .int .i64 0, .string ⟨#[]⟩, .string ⟨#[]⟩, .int .i64 0, .int .i64 0, .slice none 0 0, .int .i64 0, .int .i64 0, .int .i64 0] : Array Value).size = cs.size) := hcs.symm
      clear e7 LAY fl fl7 hrow hcs vv vv' FL HQ0 HQ2 B6 N6 CE TE HZ SZ
      rw [he]
      clear he
      go_wp2_with (first | (refine wpList_load_row rfl 31 (.tmp 6) rfl (w.heap.size + 1) rfl tt cs fr _ ROW.out Tryz.underlying31 rfl INF.out ?_) | (refine wpList_store_row rfl 31 (.tmp 4) (.tmp 28) rfl w.heap.size cs rfl rfl 31 #[.int .i64 0, .int .i64 0, .bool false, .string ⟨#[]⟩, .string ⟨#[]⟩, .int .i64 0, .slice none 0 0, .slice none 0 0, .slice none 0 0, .slice none 0 0, .slice none 0 0, .int .i64 0, .int .i64 0, .int .i64 0, .string ⟨#[]⟩, .string ⟨#[]⟩, .int .i64 0, .int .i64 0, .int .i64 0, .int .i64 0, .int .i64 0, .string ⟨#[]⟩, .string ⟨#[]⟩, .int .i64 0, .int .i64 0, .slice none 0 0, .int .i64 0, .int .i64 0, .int .i64 0] HQ0'.out INF.out SZC.out ONE.out ?_))
      refine bodyPost_ret (v := .tuple #[.agg cs, .int .i64 0]) ?r ?d ?_
      case r => exact results_cell_tmp rfl _ _ w.heap.size 31 cs (0, 0) _ (.int .i64 0) rfl rfl L1.out.1 Tryz.underlying31 rfl INF.out
      case d => rfl
      rw [TE0.out, TV.out]
      exact ⟨_, rfl, L1.out.2.1, L1.out.2.2⟩
    · have TN : Hid (¬ sErr bs = 0) := by show ¬ _; rw [TE.out]; exact he
      have TV : Hid (sVal bs = zeroS) := sVal_bad TN.out
      have L1 := hide (LAY.out w7 #[.int .i64 0, .int .i64 0, .bool false, .string ⟨#[]⟩, .string ⟨#[]⟩, .int .i64 0, .slice none 0 0, .slice none 0 0, .slice none 0 0, .slice none 0 0, .slice none 0 0, .int .i64 0, .int .i64 0, .int .i64 0, .string ⟨#[]⟩, .string ⟨#[]⟩, .int .i64 0, .int .i64 0, .int .i64 0, .int .i64 0, .int .i64 0, .string ⟨#[]⟩, .string ⟨#[]⟩, .int .i64 0, .int .i64 0, .slice none 0 0, .int .i64 0, .int .i64 0, .int .i64 0] zeroS HQ0'.out B7.out (HZ.out _ _) rfl)
      have ONE := hide (HZ.out w7 (fun _ => True)).one
      obtain ⟨E, eE⟩ : ∃ E, E = endA bs (stateA bs ⟨0, 0⟩).s := ⟨_, rfl⟩
      rw [← eE] at he ⊢
      have hx : (E != 0) = true := by simpa using he
      have EE := hide eE
      clear e7 LAY FL HQ0 HQ2 B6 N6 CE HZ TN SZ eE
      go_wp2_with (first | (refine wpList_load_row rfl 31 (.tmp 7) rfl (w.heap.size + 2) rfl 31 #[.int .i64 0, .int .i64 0, .bool false, .string ⟨#[]⟩, .string ⟨#[]⟩, .int .i64 0, .slice none 0 0, .slice none 0 0, .slice none 0 0, .slice none 0 0, .slice none 0 0, .int .i64 0, .int .i64 0, .int .i64 0, .string ⟨#[]⟩, .string ⟨#[]⟩, .int .i64 0, .int .i64 0, .int .i64 0, .int .i64 0, .int .i64 0, .string ⟨#[]⟩, .string ⟨#[]⟩, .int .i64 0, .int .i64 0, .slice none 0 0, .int .i64 0, .int .i64 0, .int .i64 0] (0, 0) _ HQ2'.out Tryz.underlying31 rfl info_state ?_) | (refine wpList_store_row rfl 31 (.tmp 4) (.tmp 26) rfl w.heap.size #[.int .i64 0, .int .i64 0, .bool false, .string ⟨#[]⟩, .string ⟨#[]⟩, .int .i64 0, .slice none 0 0, .slice none 0 0, .slice none 0 0, .slice none 0 0, .slice none 0 0, .int .i64 0, .int .i64 0, .int .i64 0, .string ⟨#[]⟩, .string ⟨#[]⟩, .int .i64 0, .int .i64 0, .int .i64 0, .int .i64 0, .int .i64 0, .string ⟨#[]⟩, .string ⟨#[]⟩, .int .i64 0, .int .i64 0, .slice none 0 0, .int .i64 0, .int .i64 0, .int .i64 0] rfl rfl 31 #[.int .i64 0, .int .i64 0, .bool false, .string ⟨#[]⟩, .string ⟨#[]⟩, .int .i64 0, .slice none 0 0, .slice none 0 0, .slice none 0 0, .slice none 0 0, .slice none 0 0, .int .i64 0, .int .i64 0, .int .i64 0, .string ⟨#[]⟩, .string ⟨#[]⟩, .int .i64 0, .int .i64 0, .int .i64 0, .int .i64 0, .int .i64 0, .string ⟨#[]⟩, .string ⟨#[]⟩, .int .i64 0, .int .i64 0, .slice none 0 0, .int .i64 0, .int .i64 0, .int .i64 0] HQ0'.out info_state rfl ONE.out ?_))
      refine bodyPost_ret (v := .tuple #[.agg #[.int .i64 0, .int .i64 0, .bool false, .string ⟨#[]⟩, .string ⟨#[]⟩, .int .i64 0, .slice none 0 0, .slice none 0 0, .slice none 0 0, .slice none 0 0, .slice none 0 0, .int .i64 0, .int .i64 0, .int .i64 0, .string ⟨#[]⟩, .string ⟨#[]⟩, .int .i64 0, .int .i64 0, .int .i64 0, .int .i64 0, .int .i64 0, .string ⟨#[]⟩, .string ⟨#[]⟩, .int .i64 0, .int .i64 0, .slice none 0 0, .int .i64 0, .int .i64 0, .int .i64 0], .int .i64 E]) ?r ?d ?_
      case r => exact results_cell_tmp rfl _ _ w.heap.size 31 #[.int .i64 0, .int .i64 0, .bool false, .string ⟨#[]⟩, .string ⟨#[]⟩, .int .i64 0, .slice none 0 0, .slice none 0 0, .slice none 0 0, .slice none 0 0, .slice none 0 0, .int .i64 0, .int .i64 0, .int .i64 0, .string ⟨#[]⟩, .string ⟨#[]⟩, .int .i64 0, .int .i64 0, .int .i64 0, .int .i64 0, .int .i64 0, .string ⟨#[]⟩, .string ⟨#[]⟩, .int .i64 0, .int .i64 0, .slice none 0 0, .int .i64 0, .int .i64 0, .int .i64 0] (0, 0) _ (.int .i64 E) rfl rfl L1.out.1 Tryz.underlying31 rfl info_state
      case d => rfl
      rw [TE.out, ← EE.out, TV.out]
      exact ⟨_, rfl, L1.out.2.1, L1.out.2.2⟩
end Go.Proofs.YthklpkmdmkgjiaaGreat
