/- Clear and Fork of a landed box. No condition. -/
import Derived.Test.YtanfmpeblhegpaaDoorChuLook
import Derived.Laws.Externs
import Derived.MapKept
import Derived.Laws.Cover3
namespace Go.Proofs.YtanfmpeblhegpaaDoor
open Go.ChangeShapes Go.WideShapes Go.ChangeAt Go.RowKit B8 Ck
set_option linter.unusedVariables false

theorem eql_map_none (w : World) (mo : Option Nat) : (binOp .eql 46 (.map mo) (.map none)).run Tryd.prog w = .ok (.bool mo.isNone) w := by
  simp only [binOp]
  simp [run_equal_map_nil w 46 _ _ mo Tryd.underlying46]
/-- what a call that writes a box leaves -/
def Mv (w : World) (P : Nat → Prop) (B : Nat) (mo : Option Nat) (s' : Bx) (w' : World) : Prop := Chg (BM B mo) w w' ∧ ∃ mo', Bm w' P B mo' s' ∧ ∀ k, mo' = some k → mo = some k ∨ w.heap.size ≤ k
theorem Mv.stay {w w' : World} {P : Nat → Prop} {B : Nat} {mo : Option Nat} {s : Bx} (h : Bm w P B mo s) (hb : Below w.heap.size w w') : Mv w P B mo s w' := ⟨Chg.of_below hb _, mo, h.below hb, fun k hk => .inl hk⟩
set_option maxRecDepth 100000 in
theorem clear_any {w : World} {P : Nat → Prop} {B : Nat} {mo : Option Nat} {s : Bx} (h : Bm w P B mo s) :
    Calls Tryd.prog 6 #[.pointer (some ⟨B, 0, none⟩)] w fun e w' => e = .returned (.tuple #[]) ∧ Chg (BM B mo) w w' ∧ Bm w' P B mo newS := by
  have H := hide h
  have c0 := h.c0
  have c1 := h.c1
  have f := h.f
  obtain ⟨w1, e1⟩ : ∃ w1, w1 = (w.setCell ⟨B, 0, none⟩ (.int .i64 0)).setCell ⟨B, 1, none⟩ (.int .u32 0) := ⟨_, rfl⟩
  have R1 : Hid (w1.heap[B]? = some (.cells (brow newS mo) 48 (0, 0))) := by rw [e1]; exact put_row (put_row h.row)
  have G1 : Hid (Chg (BM B mo) w w1) := by rw [e1]; exact ((Chg.refl _ _).setCell (p := ⟨B, 0, none⟩) (.inl (.inl rfl)) _).setCell (p := ⟨B, 1, none⟩) (.inl (.inl rfl)) _
  have c2 : w1.cell? ⟨B, 2, none⟩ = some (.map mo) := by rw [cell_of_row _ _ _ _ _ _ R1.out]; rfl
  obtain ⟨l, hmo, hps, hin⟩ := h.ex
  have hm1 : Mo w1 mo l := hmo.same (fun k hk => by
    have ne : B ≠ k := fun e => h.mB (by rw [e]; exact hk)
    rw [e1, Below.heap_setCell _ _ _ _ (by simpa using ne.symm), Below.heap_setCell _ _ _ _ (by simpa using ne.symm)])
  obtain ⟨w2, run2, hm2, hc2⟩ := mo_clear hm1 0
  have FIN : Hid (Chg (BM B mo) w w2 ∧ Bm w2 P B mo newS) := by
    refine ⟨G1.out.trans hc2 (fun k _ hk => .inr hk), ⟨(hc2.block B (Array.getElem?_eq_some_iff.1 R1.out).1 h.mB).trans R1.out, ⟨[], hm2, rfl, fun q hq => absurd hq (by simp)⟩, ok_new⟩⟩
  have c2w := h.c2
  rw [e1] at run2
  clear h hmo hps hin hm1 hm2 hc2 c2
  go_enter Tryd.func6, Tryd.ntmps6
  go_wp2_with fail
  refine bodyPost_end (results_none rfl _ _ _) rfl ?_
  exact ⟨rfl, FIN.out⟩
theorem clear_nil (w : World) : Calls Tryd.prog 6 #[.pointer none] w fun e w' => e = .returned (.tuple #[]) ∧ w' = w := by
  go_enter Tryd.func6, Tryd.ntmps6
  go_wp2_with fail
  first
    | (refine bodyPost_end (results_none rfl _ _ _) rfl ?_; exact ⟨rfl, rfl⟩)
    | (go_returns; exact ⟨rfl, rfl⟩)

end Go.Proofs.YtanfmpeblhegpaaDoor
