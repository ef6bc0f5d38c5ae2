/- Clear and Fork of a landed box. No condition. -/
import Derived.Test.YtokdlkfjimihjaaDoorChuLook
import Derived.Laws.Externs
import Derived.MapKept
import Derived.Laws.Cover3
namespace Go.Proofs.YtokdlkfjimihjaaDoor
open Go.ChangeShapes Go.WideShapes Go.ChangeAt Go.RowKit B8 Ck
set_option linter.unusedVariables false

theorem eql_map_none (w : World) (mo : Option Nat) : (binOp .eql 58 (.map mo) (.map none)).run Tryd.prog w = .ok (.bool mo.isNone) w := by
  simp only [binOp]
  simp [run_equal_map_nil w 58 _ _ mo Tryd.underlying58]
/-- what a call that writes a box leaves -/
def Mv (w : World) (P : Nat → Prop) (B : Nat) (mo : Option Nat) (s' : Bx) (w' : World) : Prop := Chg (BM B mo) w w' ∧ ∃ mo', Bm w' P B mo' s' ∧ ∀ k, mo' = some k → mo = some k ∨ w.heap.size ≤ k
theorem Mv.stay {w w' : World} {P : Nat → Prop} {B : Nat} {mo : Option Nat} {s : Bx} (h : Bm w P B mo s) (hb : Below w.heap.size w w') : Mv w P B mo s w' := ⟨Chg.of_below hb _, mo, h.below hb, fun k hk => .inl hk⟩
set_option maxRecDepth 100000 in
theorem clear_any {w : World} {P : Nat → Prop} {B : Nat} {mo : Option Nat} {s : Bx} (h : Bm w P B mo s) :
    Calls Tryd.prog 17 #[.pointer (some ⟨B, 0, none⟩)] w fun e w' => e = .returned (.tuple #[]) ∧ Chg (BM B mo) w w' ∧ Bm w' P B mo newS := by
  have H := hide h
  have c0 := h.c0
  have c1 := h.c1
  have f := h.f
  obtain ⟨w1, e1⟩ : ∃ w1, w1 = (w.setCell ⟨B, 0, none⟩ (.int .i64 0)).setCell ⟨B, 1, none⟩ (.int .u32 0) := ⟨_, rfl⟩
  have R1 : Hid (w1.heap[B]? = some (.cells (brow newS mo) 60 (0, 0))) := by rw [e1]; exact put_row (put_row h.row)
  have G1 : Hid (Chg (BM B mo) w w1) := by rw [e1]; exact ((Chg.refl _ _).setCell (p := ⟨B, 0, none⟩) (.inl (.inl rfl)) _).setCell (p := ⟨B, 1, none⟩) (.inl (.inl rfl)) _
  have c2 : w1.cell? ⟨B, 2, none⟩ = some (.map mo) := by rw [cell_of_row _ _ _ _ _ _ R1.out]; rfl
  obtain ⟨l, hmo, hps, hin⟩ := h.ex
  have hm1 : Mo w1 mo l := hmo.same (fun k hk => by
    have ne : B ≠ k := fun e => h.mB (by rw [e]; exact hk)
    rw [e1, Below.heap_setCell _ _ _ _ (by simpa using ne.symm), Below.heap_setCell _ _ _ _ (by simpa using ne.symm)])
  obtain ⟨w2, run2, hm2, hc2⟩ := mo_clear hm1 0
  have FIN : Hid (Chg (BM B mo) w w2 ∧ Bm w2 P B mo newS) := by
    refine ⟨G1.out.trans hc2 (fun k _ hk => .inr hk), ⟨(hc2.block B (Array.getElem?_eq_some_iff.1 R1.out).1 h.mB).trans R1.out, ⟨[], hm2, rfl, fun q hq => absurd hq (by simp)⟩, ok_new⟩⟩
  have c2w := h.c2
  rw [e1] at run2
  clear h hmo hps hin hm1 hm2 hc2 c2
  go_enter Tryd.func17, Tryd.ntmps17
  go_wp2_with fail
  refine bodyPost_end (results_none rfl _ _ _) rfl ?_
  exact ⟨rfl, FIN.out⟩
theorem clear_nil (w : World) : Calls Tryd.prog 17 #[.pointer none] w fun e w' => e = .returned (.tuple #[]) ∧ w' = w := by
  go_enter Tryd.func17, Tryd.ntmps17
  go_wp2_with fail
  first
    | (refine bodyPost_end (results_none rfl _ _ _) rfl ?_; exact ⟨rfl, rfl⟩)
    | (go_returns; exact ⟨rfl, rfl⟩)

theorem assert_map (w : World) (v : Value) (xT : TypeId) : (Instr.typeAssert (.iface 58 v) xT 58 false).run Tryd.prog w = .ok v w := by
  simp [Instr.typeAssert, run_underlying Tryd.underlying58, go_sem, Result.andThen]
theorem clone_entry (w : World) {r : Nat} {es : Array MapEntry} {clock : Nat} (t : TypeId) (hb : w.heap[r]? = some (.map es clock)) :
    (Extern.MapsClone.clone #[.iface t (.map (some r))]).run Tryd.prog w = .ok (.iface t (.map (some w.heap.size))) (w.alloc (.map es clock)) := by
  refine Eq.trans (congrArg (fun x => Sem.run Tryd.prog x w) (show Extern.MapsClone.clone #[.iface t (.map (some r))] = (getObj r >>= _) from rfl)) ?_
  simp [MapKept.run_getObj_map hb, Result.andThen, go_sem]
set_option maxRecDepth 100000 in
theorem clone_map {w : World} {mo : Option Nat} {l : List Qv} (h : Mo w mo l) :
    Calls Tryd.prog 37 #[.map mo] w fun e w' => ∃ mo', e = .returned (.map mo') ∧ Mo w' mo' l ∧ Below w.heap.size w w' ∧ ∀ k, mo' = some k → w.heap.size ≤ k := by
  cases mo with
  | none =>
    have hl : l = [] := h
    have hq := eql_map_none w none
    simp only [Option.isNone_none] at hq
    clear h
    go_enter Tryd.func37, Tryd.ntmps37
    go_wp2_with fail
    go_ret
    exact ⟨none, rfl, hl, Below.refl _ _, fun k hk => by cases hk⟩
  | some mb =>
    obtain ⟨D, ⟨es, clock, hb, F, hs, hD0⟩, hD⟩ := id h
    have HH : Hid (Mq (w.alloc (.map es clock)) w.heap.size l) := ⟨D, ⟨es, clock, heap_alloc_new w _, F, hs, hD0⟩, hD⟩
    clear hD hD0 F hs h
    have hq := eql_map_none w (some mb)
    simp only [Option.isNone_some] at hq
    go_enter Tryd.func37, Tryd.ntmps37
    go_wp2_with fail
    rw [run_callFunc_extern Tryd.func40 (by kernel_rfl) (by kernel_rfl) (by kernel_rfl) (e := Extern.MapsClone.clone) (by kernel_rfl), clone_entry w 58 hb]
    simp only [Result.andThen]
    rw [Oper.upon_value]
    go_wp2_with fail
    rw [assert_map]
    simp only [Result.andThen]
    rw [Oper.upon_value]
    go_wp2_with fail
    go_ret
    exact ⟨some w.heap.size, rfl, HH.out, below_alloc (Below.refl _ _) _, fun k hk => by cases hk; exact Nat.le_refl _⟩
set_option maxRecDepth 100000 in
set_option maxHeartbeats 1000000 in
theorem fork_any {w : World} {P : Nat → Prop} {B : Nat} {mo : Option Nat} {s : Bx} (h : Bm w P B mo s) :
    Calls Tryd.prog 27 #[.pointer (some ⟨B, 0, none⟩)] w fun e w' => ∃ B' mo', e = .returned (.pointer (some ⟨B', 0, none⟩)) ∧ Below w.heap.size w w' ∧ Bm w' P B' mo' s ∧ ∀ k, BM B' mo' k → w.heap.size ≤ k := by
  have c0 := h.c0
  have c1 := h.c1
  have c2 := h.c2
  have H := hide h
  obtain ⟨l, hmo, hps, hin⟩ := h.ex
  have C := hide (clone_map (hmo.same (w' := w.drew) (fun _ _ => rfl)))
  have FI : Hid (∀ w1 mo', Below w.heap.size w w1 → Mo w1 mo' l → (∀ k, mo' = some k → w.heap.size ≤ k) → Below w.heap.size w (w1.alloc (.cells #[.int .i64 s.of, .int .u32 s.sum, .map mo'] 60)) ∧ Bm (w1.alloc (.cells #[.int .i64 s.of, .int .u32 s.sum, .map mo'] 60)) P w1.heap.size mo' s ∧ ∀ k, BM w1.heap.size mo' k → w.heap.size ≤ k) := fun w1 mo' hb hm hs => by
    have hb2 := below_alloc (Below.refl w1.heap.size w1) (.cells #[.int .i64 s.of, .int .u32 s.sum, .map mo'] 60)
    refine ⟨below_step hb hb2, ⟨heap_alloc_new w1 _, ⟨l, hm.same (fun k hk => hb2.block _ (hm.lt k hk)), hps, fun p hp => Bi.below (Bi.below (hin p hp) hb) hb2⟩, H.out.ok⟩, fun k hk => ?_⟩
    rcases hk with rfl | hk
    · exact hb.size
    · exact hs k hk
  clear h hmo hps hin
  go_enter Tryd.func27, Tryd.ntmps27
  go_wp2_with fail
  go_region_held3 (fun u => u.cell? ⟨B, 0, none⟩ = some (.int .i64 s.of) ∧ u.cell? ⟨B, 1, none⟩ = some (.int .u32 s.sum) ∧ u.cell? ⟨B, 2, none⟩ = some (.map mo)) (first | go_keep | exact ⟨c0, c1, c2⟩ | exact ⟨d0, d1, d2⟩ | exact ⟨g0, g1, g2⟩) ((first | (go_at_call 37; refine C.out.mono ?_; rintro e w1 ⟨mo', rfl, hm1, hb1, hs1⟩; have H1 := H.out.drew.below hb1; have d0 := H1.c0; have d1 := H1.c1; have d2 := H1.c2; have FN := hide (FI.out w1 mo' ((Below.refl _ _).drew.trans hb1) hm1 hs1); have H2 := H1.below (below_alloc (Below.refl _ _) (.cells #[.int .i64 s.of, .int .u32 s.sum, .map mo'] 60)); have g0 := H2.c0; have g1 := H2.c1; have g2 := H2.c2; clear hm1 hb1 hs1 H1 H2)))
  all_goals (go_wp2_with fail; go_ret; exact ⟨_, _, rfl, FN.out.1, FN.out.2.1, FN.out.2.2⟩)
theorem fork_nil (w : World) : Calls Tryd.prog 27 #[.pointer none] w fun e w' => e = .returned (.pointer none) ∧ w' = w := by
  go_enter Tryd.func27, Tryd.ntmps27
  go_wp2_with fail
  go_ret
  exact ⟨rfl, rfl⟩
end Go.Proofs.YtokdlkfjimihjaaDoor
