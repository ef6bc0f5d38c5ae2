/- What the document's WriteState and ReadState do. No condition but the size. -/
import Derived.Test.YthklpkmdmkgjiaaGreatFWireDocStateA
import Derived.Test.YthklpkmdmkgjiaaGreatJM
import Derived.Deep.Cut
namespace Go.Proofs.YthklpkmdmkgjiaaGreat
open Go.ChangeShapes Go.WideShapes Go.ChangeAt Go.RowKit B8 Cm Wm
set_option linter.unusedVariables false

set_option maxRecDepth 100000 in
set_option maxHeartbeats 1000000 in
theorem dwrite_state {w : World} {cs : Array Value} {x : Sta} (h : StaV w (fun b => b < w.heap.size) cs x) (hk : StaK x) (hn1 : x.acs.length ≤ 140737488355328) (hnh : ∀ a ∈ x.acs, a.hs.length ≤ 140737488355328) (hn2 : x.ms.length ≤ 140737488355328) (hn3 : x.ws.length ≤ 140737488355328) (hn4 : x.ds.length ≤ 140737488355328) (hn5 : x.es.length ≤ 140737488355328) :
    Calls Tryz.prog 6 #[.agg cs] w fun e w' => ∃ a cp, e = .returned (.tuple #[.slice a (wBytes x.flds).length cp, .int .i64 (wErr x.flds)]) ∧ Sq w' a (wBytes x.flds).length cp (wBytes x.flds) ∧ Below w.heap.size w w' := by
  have hb1 : Below w.heap.size w (w.alloc (.cells cs 31)) := Below.alloc (Below.refl _ _) (Nat.le_refl _) _
  have hb2 : Below w.heap.size w ((w.alloc (.cells cs 31)).alloc (.cells #[.slice none 0 0, .pointer none, .bool false] 48)) := below_alloc hb1 _
  have ws : VS ((w.alloc (.cells cs 31)).alloc (.cells #[.slice none 0 0, .pointer none, .bool false] 48)) w.heap.size (w.heap.size + 1) 65536 [] := by
    have := vs_new (B := w.heap.size) (w.alloc (.cells cs 31)) hb1.size
    simpa using this
  have hn : ∀ k, Wown (w.heap.size + 1) ((w.alloc (.cells cs 31)).alloc (.cells #[.slice none 0 0, .pointer none, .bool false] 48)) k → k = w.heap.size + 1 := by
    intro k hk
    have := vown_first (w.alloc (.cells cs 31)) (k := k)
    simp only [World.size_alloc] at this
    exact this hk
  have hm : (((w.alloc (.cells cs 31)).alloc (.cells #[.slice none 0 0, .pointer none, .bool false] 48))).heap[w.heap.size]? = some (.cells cs 31) := heap_alloc2_old w _ _
  have hM : w.heap.size < (((w.alloc (.cells cs 31)).alloc (.cells #[.slice none 0 0, .pointer none, .bool false] 48))).heap.size := by simp; omega
  have hS : ¬ Wown (w.heap.size + 1) ((w.alloc (.cells cs 31)).alloc (.cells #[.slice none 0 0, .pointer none, .bool false] 48)) w.heap.size := fun e => by have := hn _ e; omega
  have fl := staAt_of hm (h.same (w1 := ((w.alloc (.cells cs 31)).alloc (.cells #[.slice none 0 0, .pointer none, .bool false] 48))) (P' := Out (Wown (w.heap.size + 1)) w.heap.size ((w.alloc (.cells cs 31)).alloc (.cells #[.slice none 0 0, .pointer none, .bool false] 48))) fun b hb => ⟨⟨by omega, fun e => by have := hn _ e; omega, by omega⟩, hb2.block b hb⟩)
  have hsz : cs.size = 29 := h.size
  have rm : Room ((w.alloc (.cells cs 31)).alloc (.cells #[.slice none 0 0, .pointer none, .bool false] 48)) w.heap.size 0 29 := fun j hj => ⟨⟨_, by rw [cell_of_row _ _ _ _ _ _ hm]; exact Array.getElem?_eq_getElem (by omega)⟩, frozen_of_row _ _ _ _ _ hm⟩
  have C1 := hide (vState_any (fs := []) ws hb2.size (by omega) fl hk rm hS hM hn1 hnh hn2 hn3 hn4 hn5)
  have hlow : ∀ k, Wown (w.heap.size + 1) ((w.alloc (.cells cs 31)).alloc (.cells #[.slice none 0 0, .pointer none, .bool false] 48)) k → w.heap.size ≤ k := fun k hk => by have := hn _ hk; omega
  have HLOW := hide hlow
  have HB2 := hide hb2
  clear hb1 hb2 ws hn hm hM hS fl rm hlow h hk hn1 hn2 hnh hn3 hn4 hn5
  go_enter Tryz.func6, Tryz.ntmps6
  go_wp2_with fail
  refine C1.out.mono ?_
  rintro e w3 ⟨rfl, ⟨Lw, hw⟩, hs⟩
  have B3 := hide (HB2.out.trans (hs.below HB2.out.size HLOW.out (Nat.le_refl _)))
  have CE := hide (vdone_any hw)
  clear hw hs C1 HLOW HB2
  go_wp2_with fail
  refine CE.out.mono ?_
  rintro e w4 ⟨a, cp, rfl, hm4, rfl⟩
  have M4 := hide hm4
  clear hm4 CE
  go_wp2_with fail
  go_ret2
  exact ⟨a, cp, rfl, M4.out, B3.out⟩

theorem dinfo_state : (Tryz.prog.info? 31).map (·.size) = some 29 := by kernel_rfl
set_option maxRecDepth 100000 in
set_option maxHeartbeats 2000000 in
theorem dread_state {w : World} {a : Option Addr} {n cp : Nat} {bs : List Int} (q : Sq w a n cp bs) (hn : n ≤ 140737488351232) :
    Calls Tryz.prog 8 #[.slice a n cp] w fun e w' => ∃ cs, e = .returned (.tuple #[.agg cs, .int .i64 (sErr bs)]) ∧ StaV w' (fun b => w.heap.size ≤ b ∧ b < w'.heap.size) cs (sVal bs) ∧ Below w.heap.size w w' := by
  have hzv : ∀ (u : World) (P : Nat → Prop), StaV u P #[.int .i64 0, .int .i64 0, .bool false, .string ⟨#[]⟩, .string ⟨#[]⟩, .int .i64 0, .slice none 0 0, .slice none 0 0, .slice none 0 0, .slice none 0 0, .slice none 0 0, .int .i64 0, .int .i64 0, .int .i64 0, .string ⟨#[]⟩, .string ⟨#[]⟩, .int .i64 0, .int .i64 0, .int .i64 0, .int .i64 0, .int .i64 0, .string ⟨#[]⟩, .string ⟨#[]⟩, .int .i64 0, .int .i64 0, .slice none 0 0, .int .i64 0, .int .i64 0, .int .i64 0] zeroS := staV_zero
  have HZ := hide hzv
  obtain ⟨w1, e1⟩ : ∃ w1, w1 = w.alloc (.cells #[.int .i64 0, .int .i64 0, .bool false, .string ⟨#[]⟩, .string ⟨#[]⟩, .int .i64 0, .slice none 0 0, .slice none 0 0, .slice none 0 0, .slice none 0 0, .slice none 0 0, .int .i64 0, .int .i64 0, .int .i64 0, .string ⟨#[]⟩, .string ⟨#[]⟩, .int .i64 0, .int .i64 0, .int .i64 0, .int .i64 0, .int .i64 0, .string ⟨#[]⟩, .string ⟨#[]⟩, .int .i64 0, .int .i64 0, .slice none 0 0, .int .i64 0, .int .i64 0, .int .i64 0] 31) := ⟨_, rfl⟩
  have b1 : Below w.heap.size w w1 := by rw [e1]; exact below_alloc (Below.refl _ _) _
  have s1 : w1.heap.size = w.heap.size + 1 := by rw [e1]; simp
  have r0 : w1.heap[w.heap.size]? = some (.cells #[.int .i64 0, .int .i64 0, .bool false, .string ⟨#[]⟩, .string ⟨#[]⟩, .int .i64 0, .slice none 0 0, .slice none 0 0, .slice none 0 0, .slice none 0 0, .slice none 0 0, .int .i64 0, .int .i64 0, .int .i64 0, .string ⟨#[]⟩, .string ⟨#[]⟩, .int .i64 0, .int .i64 0, .int .i64 0, .int .i64 0, .int .i64 0, .string ⟨#[]⟩, .string ⟨#[]⟩, .int .i64 0, .int .i64 0, .slice none 0 0, .int .i64 0, .int .i64 0, .int .i64 0] 31) := by rw [e1]; exact heap_alloc_new w _
  have HL := hide q.length
  have B1 := hide b1
  have S1 := hide s1
  have R0 := hide r0
  have E1 := hide e1.symm
  have LAY : ∀ (u : World) (cs : Array Value) (x : Sta), u.heap[w.heap.size]? = some (.cells #[.int .i64 0, .int .i64 0, .bool false, .string ⟨#[]⟩, .string ⟨#[]⟩, .int .i64 0, .slice none 0 0, .slice none 0 0, .slice none 0 0, .slice none 0 0, .slice none 0 0, .int .i64 0, .int .i64 0, .int .i64 0, .string ⟨#[]⟩, .string ⟨#[]⟩, .int .i64 0, .int .i64 0, .int .i64 0, .int .i64 0, .int .i64 0, .string ⟨#[]⟩, .string ⟨#[]⟩, .int .i64 0, .int .i64 0, .slice none 0 0, .int .i64 0, .int .i64 0, .int .i64 0] 31) → Below w.heap.size w u → StaV u (fun b => w.heap.size < b ∧ b < u.heap.size) cs x → cs.size = 29 →
      (u.setRow w.heap.size cs).heap[w.heap.size]? = some (.cells cs 31) ∧ StaV (u.setRow w.heap.size cs) (fun b => w.heap.size ≤ b ∧ b < (u.setRow w.heap.size cs).heap.size) cs x ∧ Below w.heap.size w (u.setRow w.heap.size cs) := by
    intro u cs x hu hb hv hs
    have hother : ∀ b, b ≠ w.heap.size → (u.setRow w.heap.size cs).heap[b]? = u.heap[b]? := fun b hb => by simp only [World.setRow, Array.getElem?_modify]; rw [if_neg (fun e => hb e.symm)]
    refine ⟨setRow_heap u _ _ cs _ _ hu, hv.same fun b hb => ⟨⟨by omega, by rw [size_setRow]; omega⟩, hother b (by omega)⟩, hb.os, hb.tape, hb.output, by rw [size_setRow]; exact hb.size, fun k hk => (hother k (by omega)).trans (hb.block k hk)⟩
  have LAY := hide LAY
  have qb := q.below b1
  clear hzv b1 s1 r0 q e1
  by_cases hl : 65536 < n
  · have TE : Hid (sErr bs = 22) := sErr_long (by rw [HL.out]; exact hl)
    have TV : Hid (sVal bs = zeroS) := sVal_bad (by rw [TE.out]; decide)
    have CI := hide (din_long qb hn hl)
    clear qb
    go_enter Tryz.func8, Tryz.ntmps8
    go_upto_region 1 with fail
    rw [E1.out]
    clear E1
    go_wp2_with fail
    refine CI.out.mono ?_
    rintro e w2 ⟨W, rfl, hb2⟩
    have r2 : w2.heap[w.heap.size]? = some (.cells #[.int .i64 0, .int .i64 0, .bool false, .string ⟨#[]⟩, .string ⟨#[]⟩, .int .i64 0, .slice none 0 0, .slice none 0 0, .slice none 0 0, .slice none 0 0, .slice none 0 0, .int .i64 0, .int .i64 0, .int .i64 0, .string ⟨#[]⟩, .string ⟨#[]⟩, .int .i64 0, .int .i64 0, .int .i64 0, .int .i64 0, .int .i64 0, .string ⟨#[]⟩, .string ⟨#[]⟩, .int .i64 0, .int .i64 0, .slice none 0 0, .int .i64 0, .int .i64 0, .int .i64 0] 31) := (hb2.block _ (by rw [S1.out]; omega)).trans R0.out
    have L1 := hide (LAY.out w2 #[.int .i64 0, .int .i64 0, .bool false, .string ⟨#[]⟩, .string ⟨#[]⟩, .int .i64 0, .slice none 0 0, .slice none 0 0, .slice none 0 0, .slice none 0 0, .slice none 0 0, .int .i64 0, .int .i64 0, .int .i64 0, .string ⟨#[]⟩, .string ⟨#[]⟩, .int .i64 0, .int .i64 0, .int .i64 0, .int .i64 0, .int .i64 0, .string ⟨#[]⟩, .string ⟨#[]⟩, .int .i64 0, .int .i64 0, .slice none 0 0, .int .i64 0, .int .i64 0, .int .i64 0] zeroS r2 (below_step B1.out hb2) (HZ.out _ _) rfl)
    have ONE := hide (HZ.out w2 (fun _ => True)).one
    have RR2 := hide r2
    clear r2 hb2 LAY HZ B1 R0 CI
    go_wp2_with (refine wpList_store_row rfl 31 (.tmp 2) (.tmp 14) rfl w.heap.size #[.int .i64 0, .int .i64 0, .bool false, .string ⟨#[]⟩, .string ⟨#[]⟩, .int .i64 0, .slice none 0 0, .slice none 0 0, .slice none 0 0, .slice none 0 0, .slice none 0 0, .int .i64 0, .int .i64 0, .int .i64 0, .string ⟨#[]⟩, .string ⟨#[]⟩, .int .i64 0, .int .i64 0, .int .i64 0, .int .i64 0, .int .i64 0, .string ⟨#[]⟩, .string ⟨#[]⟩, .int .i64 0, .int .i64 0, .slice none 0 0, .int .i64 0, .int .i64 0, .int .i64 0] rfl rfl 31 #[.int .i64 0, .int .i64 0, .bool false, .string ⟨#[]⟩, .string ⟨#[]⟩, .int .i64 0, .slice none 0 0, .slice none 0 0, .slice none 0 0, .slice none 0 0, .slice none 0 0, .int .i64 0, .int .i64 0, .int .i64 0, .string ⟨#[]⟩, .string ⟨#[]⟩, .int .i64 0, .int .i64 0, .int .i64 0, .int .i64 0, .int .i64 0, .string ⟨#[]⟩, .string ⟨#[]⟩, .int .i64 0, .int .i64 0, .slice none 0 0, .int .i64 0, .int .i64 0, .int .i64 0] RR2.out dinfo_state rfl ONE.out ?_)
    refine bodyPost_ret (v := .tuple #[.agg #[.int .i64 0, .int .i64 0, .bool false, .string ⟨#[]⟩, .string ⟨#[]⟩, .int .i64 0, .slice none 0 0, .slice none 0 0, .slice none 0 0, .slice none 0 0, .slice none 0 0, .int .i64 0, .int .i64 0, .int .i64 0, .string ⟨#[]⟩, .string ⟨#[]⟩, .int .i64 0, .int .i64 0, .int .i64 0, .int .i64 0, .int .i64 0, .string ⟨#[]⟩, .string ⟨#[]⟩, .int .i64 0, .int .i64 0, .slice none 0 0, .int .i64 0, .int .i64 0, .int .i64 0], .int .i64 22]) ?r ?d ?_
    case r => exact results_cell_tmp rfl _ _ w.heap.size 31 #[.int .i64 0, .int .i64 0, .bool false, .string ⟨#[]⟩, .string ⟨#[]⟩, .int .i64 0, .slice none 0 0, .slice none 0 0, .slice none 0 0, .slice none 0 0, .slice none 0 0, .int .i64 0, .int .i64 0, .int .i64 0, .string ⟨#[]⟩, .string ⟨#[]⟩, .int .i64 0, .int .i64 0, .int .i64 0, .int .i64 0, .int .i64 0, .string ⟨#[]⟩, .string ⟨#[]⟩, .int .i64 0, .int .i64 0, .slice none 0 0, .int .i64 0, .int .i64 0, .int .i64 0] (0, 0) _ (.int .i64 22) rfl rfl L1.out.1 Tryz.underlying31 rfl dinfo_state
    case d => rfl
    rw [TE.out, TV.out]
    exact ⟨_, rfl, L1.out.2.1, L1.out.2.2⟩
  · have TE : Hid (sErr bs = endA bs (stateA bs ⟨0, 0⟩).s) := sErr_short (by rw [HL.out]; exact hl)
    have CI := hide (din_short (B := w.heap.size + 1) (by rw [S1.out]; exact Nat.le_refl _) qb (by omega))
    clear qb
    go_enter Tryz.func8, Tryz.ntmps8
    go_upto_region 1 with fail
    rw [E1.out]
    clear E1
    go_wp2_with fail
    refine CI.out.mono ?_
    rintro e w2 ⟨W, R, ad, cpd, rfl, hx2, hb2, hW, hR, had⟩
    have r2 : w2.heap[w.heap.size]? = some (.cells #[.int .i64 0, .int .i64 0, .bool false, .string ⟨#[]⟩, .string ⟨#[]⟩, .int .i64 0, .slice none 0 0, .slice none 0 0, .slice none 0 0, .slice none 0 0, .slice none 0 0, .int .i64 0, .int .i64 0, .int .i64 0, .string ⟨#[]⟩, .string ⟨#[]⟩, .int .i64 0, .int .i64 0, .int .i64 0, .int .i64 0, .int .i64 0, .string ⟨#[]⟩, .string ⟨#[]⟩, .int .i64 0, .int .i64 0, .slice none 0 0, .int .i64 0, .int .i64 0, .int .i64 0] 31) := (hb2.block _ (by rw [S1.out]; omega)).trans R0.out
    obtain ⟨w3, e3⟩ : ∃ w3, w3 = w2.alloc (.cells #[.int .i64 0, .int .i64 0, .bool false, .string ⟨#[]⟩, .string ⟨#[]⟩, .int .i64 0, .slice none 0 0, .slice none 0 0, .slice none 0 0, .slice none 0 0, .slice none 0 0, .int .i64 0, .int .i64 0, .int .i64 0, .string ⟨#[]⟩, .string ⟨#[]⟩, .int .i64 0, .int .i64 0, .int .i64 0, .int .i64 0, .int .i64 0, .string ⟨#[]⟩, .string ⟨#[]⟩, .int .i64 0, .int .i64 0, .slice none 0 0, .int .i64 0, .int .i64 0, .int .i64 0] 31) := ⟨_, rfl⟩
    have b3 : Below w2.heap.size w2 w3 := by rw [e3]; exact Below.alloc (Below.refl _ _) (Nat.le_refl _) _
    have q1 : w3.heap[w2.heap.size]? = some (.cells #[.int .i64 0, .int .i64 0, .bool false, .string ⟨#[]⟩, .string ⟨#[]⟩, .int .i64 0, .slice none 0 0, .slice none 0 0, .slice none 0 0, .slice none 0 0, .slice none 0 0, .int .i64 0, .int .i64 0, .int .i64 0, .string ⟨#[]⟩, .string ⟨#[]⟩, .int .i64 0, .int .i64 0, .int .i64 0, .int .i64 0, .int .i64 0, .string ⟨#[]⟩, .string ⟨#[]⟩, .int .i64 0, .int .i64 0, .slice none 0 0, .int .i64 0, .int .i64 0, .int .i64 0] 31) := by rw [e3]; exact heap_alloc_new w2 _
    have q0 : w3.heap[w.heap.size]? = some (.cells #[.int .i64 0, .int .i64 0, .bool false, .string ⟨#[]⟩, .string ⟨#[]⟩, .int .i64 0, .slice none 0 0, .slice none 0 0, .slice none 0 0, .slice none 0 0, .slice none 0 0, .int .i64 0, .int .i64 0, .int .i64 0, .string ⟨#[]⟩, .string ⟨#[]⟩, .int .i64 0, .int .i64 0, .int .i64 0, .int .i64 0, .int .i64 0, .string ⟨#[]⟩, .string ⟨#[]⟩, .int .i64 0, .int .i64 0, .slice none 0 0, .int .i64 0, .int .i64 0, .int .i64 0] 31) := (b3.block _ (by rcases Nat.lt_or_ge w.heap.size w2.heap.size with h | h; exact h; rw [Array.getElem?_eq_none h] at r2; cases r2)).trans r2
    have hs2 : w.heap.size + 1 ≤ w2.heap.size := by rw [← S1.out]; exact hb2.size
    have hWl := hx2.lt
    have far : Far W R ad w2.heap.size := ⟨by omega, by omega, fun b off e => by have := (hx2.ap b off e).2; omega⟩
    have hM : w2.heap.size < w3.heap.size := by rw [e3]; simp
    have room : Room w3 w2.heap.size 0 29 := fun j hj => ⟨⟨_, by rw [cell_of_row _ _ _ _ _ _ q1]; exact Array.getElem?_eq_getElem (by show 0 + j < 29; omega)⟩, frozen_of_row _ _ _ _ _ q1⟩
    have none0 : w3.cell? ⟨w2.heap.size, 29, none⟩ = none := by rw [cell_of_row _ _ _ _ _ _ q1]; rfl
    have hx3 := hx2.below b3
    have CW := hide (xState_any hx3 far hM room (five q1))
    have B3 := hide (below_step (below_step B1.out hb2) b3)
    have Q0 := hide q0
    have N0 := hide none0
    have SZ : Hid (w.heap.size + 1 ≤ W ∧ w.heap.size + 1 ≤ R ∧ w.heap.size + 1 ≤ w2.heap.size ∧ w2.heap.size < w3.heap.size) := ⟨by rw [← S1.out]; exact hW, by rw [← S1.out]; exact hR, hs2, hM⟩
    have E3 := hide e3.symm
    clear hx2 hb2 r2 b3 q1 q0 hs2 hWl far hM room none0 hx3 CI R0 B1 e3 hW hR had S1
    go_upto_region 5 with fail
    rw [E3.out]
    clear E3
    go_wp2_with fail
    refine CW.out.mono ?_
    rintro e w6 ⟨rfl, h1, h2, h3⟩
    have CE := hide (xend_any h1)
    have cR := h1.c1
    have nS : ∀ k, k < w.heap.size + 1 → ¬ Rown W R w3 k := fun k hk e => by
      have := SZ.out
      rcases e with e | e <;> omega
    have q0 : w6.heap[w.heap.size]? = some (.cells #[.int .i64 0, .int .i64 0, .bool false, .string ⟨#[]⟩, .string ⟨#[]⟩, .int .i64 0, .slice none 0 0, .slice none 0 0, .slice none 0 0, .slice none 0 0, .slice none 0 0, .int .i64 0, .int .i64 0, .int .i64 0, .string ⟨#[]⟩, .string ⟨#[]⟩, .int .i64 0, .int .i64 0, .int .i64 0, .int .i64 0, .int .i64 0, .string ⟨#[]⟩, .string ⟨#[]⟩, .int .i64 0, .int .i64 0, .slice none 0 0, .int .i64 0, .int .i64 0, .int .i64 0] 31) := (h3.block _ (by have := SZ.out; omega) (nS _ (by omega)) (by have := SZ.out; omega)).trans Q0.out
    have b6 : Below w.heap.size w w6 := B3.out.trans (h3.below B3.out.size (fun k hk => by have := SZ.out; rcases hk with hk | hk <;> omega) (by have := SZ.out; omega))
    have none6 : w6.cell? ⟨w2.heap.size, 29, none⟩ = none := (h3.cell 29 (by omega)).trans N0.out
    have FL := hide h2
    have HQ0 := hide q0
    have B6 := hide b6
    have N6 := hide none6
    clear h1 h2 h3 CW q0 b6 none6 nS Q0 N0 B3
    go_wp2_with fail
    refine CE.out.mono ?_
    rintro e w7 ⟨rfl, m7, e7⟩
    have HQ0' : Hid (w7.heap[w.heap.size]? = some (.cells #[.int .i64 0, .int .i64 0, .bool false, .string ⟨#[]⟩, .string ⟨#[]⟩, .int .i64 0, .slice none 0 0, .slice none 0 0, .slice none 0 0, .slice none 0 0, .slice none 0 0, .int .i64 0, .int .i64 0, .int .i64 0, .string ⟨#[]⟩, .string ⟨#[]⟩, .int .i64 0, .int .i64 0, .int .i64 0, .int .i64 0, .int .i64 0, .string ⟨#[]⟩, .string ⟨#[]⟩, .int .i64 0, .int .i64 0, .slice none 0 0, .int .i64 0, .int .i64 0, .int .i64 0] 31)) := by rw [e7]; exact HQ0.out
    have B7 : Hid (Below w.heap.size w w7) := by rw [e7]; exact below_drewN B6.out m7
    by_cases he : endA bs (stateA bs ⟨0, 0⟩).s = 0
    · have TE0 : Hid (sErr bs = 0) := by show _ = _; rw [TE.out]; exact he
      have TV : Hid (sVal bs = (stateA bs ⟨0, 0⟩).v) := sVal_good TE0.out
      have fl7 : StaAt w7 (OutB (w.heap.size + 1) (Rown W R) w2.heap.size w6) w2.heap.size 0 (stateA bs ⟨0, 0⟩).v := by rw [e7]; exact (StaC.same (FL.out (endA_zero he)) (fun o _ => rfl) (stateK_A bs _) (fun b hb => ⟨hb, rfl⟩))
      obtain ⟨cs, tt, fr, hrow, hcs⟩ := row_of_cells (w := w7) (M := w2.heap.size) (N := 29) (by omega) (fun j hj => by obtain ⟨v, h1, _⟩ := StaC.cell fl7 (stateK_A bs _) j hj; exact ⟨v, by simpa using h1⟩) (by rw [e7]; exact N6.out)
      have vv := staV_of hrow hcs (stateK_A bs _) fl7
      have vv' : StaV w7 (fun b => w.heap.size < b ∧ b < w7.heap.size) cs (stateA bs ⟨0, 0⟩).v := vv.same fun b hb => ⟨⟨by have := hb.1; omega, by have := hb.2.1; rw [e7]; exact this⟩, rfl⟩
      have L1 := hide (LAY.out w7 cs _ HQ0'.out B7.out vv' hcs)
      have ONE := hide vv'.one
      have ROW := hide hrow
      have INF : Hid ((Tryz.prog.info? 31).map (·.size) = some cs.size) := by show _ = _; rw [hcs]; exact dinfo_state
      have SZC : Hid ((#[.int .i64 0, .int .i64 0, .bool false, .string ⟨#[]⟩, .string ⟨#[]⟩, .int .i64 0, .slice none 0 0, .slice none 0 0, .slice none 0 0, .slice none 0 0, .slice none 0 0, .int .i64 0, .int .i64 0, .int .i64 0, .string ⟨#[]⟩, .string ⟨#[]⟩, .int .i64 0, .int .i64 0, .int .i64 0, .int .i64 0, .int .i64 0, .string ⟨#[]⟩, .string ⟨#[]⟩, .int .i64 0, .int .i64 0, .slice none 0 0, .int .i64 0, .int .i64 0, .int .i64 0] : Array Value).size = cs.size) := hcs.symm
      clear e7 LAY fl7 hrow hcs vv vv' FL HQ0 B6 N6 CE TE HZ SZ
      rw [he]
      clear he
      go_wp2_with (first | (refine wpList_load_row rfl 31 (.tmp 6) rfl w2.heap.size rfl tt cs fr _ ROW.out Tryz.underlying31 rfl INF.out ?_) | (refine wpList_store_row rfl 31 (.tmp 2) (.tmp 27) rfl w.heap.size cs rfl rfl 31 #[.int .i64 0, .int .i64 0, .bool false, .string ⟨#[]⟩, .string ⟨#[]⟩, .int .i64 0, .slice none 0 0, .slice none 0 0, .slice none 0 0, .slice none 0 0, .slice none 0 0, .int .i64 0, .int .i64 0, .int .i64 0, .string ⟨#[]⟩, .string ⟨#[]⟩, .int .i64 0, .int .i64 0, .int .i64 0, .int .i64 0, .int .i64 0, .string ⟨#[]⟩, .string ⟨#[]⟩, .int .i64 0, .int .i64 0, .slice none 0 0, .int .i64 0, .int .i64 0, .int .i64 0] HQ0'.out INF.out SZC.out ONE.out ?_))
      refine bodyPost_ret (v := .tuple #[.agg cs, .int .i64 0]) ?r ?d ?_
      case r => exact results_cell_tmp rfl _ _ w.heap.size 31 cs (0, 0) _ (.int .i64 0) rfl rfl L1.out.1 Tryz.underlying31 rfl INF.out
      case d => rfl
      rw [TE0.out, TV.out]
      exact ⟨_, rfl, L1.out.2.1, L1.out.2.2⟩
    · have TN : Hid (¬ sErr bs = 0) := by show ¬ _; rw [TE.out]; exact he
      have TV : Hid (sVal bs = zeroS) := sVal_bad TN.out
      have L1 := hide (LAY.out w7 #[.int .i64 0, .int .i64 0, .bool false, .string ⟨#[]⟩, .string ⟨#[]⟩, .int .i64 0, .slice none 0 0, .slice none 0 0, .slice none 0 0, .slice none 0 0, .slice none 0 0, .int .i64 0, .int .i64 0, .int .i64 0, .string ⟨#[]⟩, .string ⟨#[]⟩, .int .i64 0, .int .i64 0, .int .i64 0, .int .i64 0, .int .i64 0, .string ⟨#[]⟩, .string ⟨#[]⟩, .int .i64 0, .int .i64 0, .slice none 0 0, .int .i64 0, .int .i64 0, .int .i64 0] zeroS HQ0'.out B7.out (HZ.out _ _) rfl)
      have ONE := hide (HZ.out w7 (fun _ => True)).one
      obtain ⟨E, eE⟩ : ∃ E, E = endA bs (stateA bs ⟨0, 0⟩).s := ⟨_, rfl⟩
      rw [← eE] at he ⊢
      have hx : (E != 0) = true := by simpa using he
      have EE := hide eE
      clear e7 LAY FL HQ0 B6 N6 CE HZ TN SZ eE
      go_wp2_with (refine wpList_store_row rfl 31 (.tmp 2) (.tmp 25) rfl w.heap.size #[.int .i64 0, .int .i64 0, .bool false, .string ⟨#[]⟩, .string ⟨#[]⟩, .int .i64 0, .slice none 0 0, .slice none 0 0, .slice none 0 0, .slice none 0 0, .slice none 0 0, .int .i64 0, .int .i64 0, .int .i64 0, .string ⟨#[]⟩, .string ⟨#[]⟩, .int .i64 0, .int .i64 0, .int .i64 0, .int .i64 0, .int .i64 0, .string ⟨#[]⟩, .string ⟨#[]⟩, .int .i64 0, .int .i64 0, .slice none 0 0, .int .i64 0, .int .i64 0, .int .i64 0] rfl rfl 31 #[.int .i64 0, .int .i64 0, .bool false, .string ⟨#[]⟩, .string ⟨#[]⟩, .int .i64 0, .slice none 0 0, .slice none 0 0, .slice none 0 0, .slice none 0 0, .slice none 0 0, .int .i64 0, .int .i64 0, .int .i64 0, .string ⟨#[]⟩, .string ⟨#[]⟩, .int .i64 0, .int .i64 0, .int .i64 0, .int .i64 0, .int .i64 0, .string ⟨#[]⟩, .string ⟨#[]⟩, .int .i64 0, .int .i64 0, .slice none 0 0, .int .i64 0, .int .i64 0, .int .i64 0] HQ0'.out dinfo_state rfl ONE.out ?_)
      refine bodyPost_ret (v := .tuple #[.agg #[.int .i64 0, .int .i64 0, .bool false, .string ⟨#[]⟩, .string ⟨#[]⟩, .int .i64 0, .slice none 0 0, .slice none 0 0, .slice none 0 0, .slice none 0 0, .slice none 0 0, .int .i64 0, .int .i64 0, .int .i64 0, .string ⟨#[]⟩, .string ⟨#[]⟩, .int .i64 0, .int .i64 0, .int .i64 0, .int .i64 0, .int .i64 0, .string ⟨#[]⟩, .string ⟨#[]⟩, .int .i64 0, .int .i64 0, .slice none 0 0, .int .i64 0, .int .i64 0, .int .i64 0], .int .i64 E]) ?r ?d ?_
      case r => exact results_cell_tmp rfl _ _ w.heap.size 31 #[.int .i64 0, .int .i64 0, .bool false, .string ⟨#[]⟩, .string ⟨#[]⟩, .int .i64 0, .slice none 0 0, .slice none 0 0, .slice none 0 0, .slice none 0 0, .slice none 0 0, .int .i64 0, .int .i64 0, .int .i64 0, .string ⟨#[]⟩, .string ⟨#[]⟩, .int .i64 0, .int .i64 0, .int .i64 0, .int .i64 0, .int .i64 0, .string ⟨#[]⟩, .string ⟨#[]⟩, .int .i64 0, .int .i64 0, .slice none 0 0, .int .i64 0, .int .i64 0, .int .i64 0] (0, 0) _ (.int .i64 E) rfl rfl L1.out.1 Tryz.underlying31 rfl dinfo_state
      case d => rfl
      rw [TE.out, ← EE.out, TV.out]
      exact ⟨_, rfl, L1.out.2.1, L1.out.2.2⟩
end Go.Proofs.YthklpkmdmkgjiaaGreat
