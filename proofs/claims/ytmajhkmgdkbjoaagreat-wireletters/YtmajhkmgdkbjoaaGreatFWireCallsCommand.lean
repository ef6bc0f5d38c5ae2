/- wire's calls Command and ReadCommand. No condition but the size. -/
import Derived.Test.YtmajhkmgdkbjoaaGreatFWireTopCommand
import Derived.Test.YtmajhkmgdkbjoaaGreatJA
import Derived.Deep.Cut
namespace Go.Proofs.YtmajhkmgdkbjoaaGreat
open Go.ChangeShapes Go.WideShapes Go.ChangeAt Go.RowKit B8 Cm Wm
set_option linter.unusedVariables false

theorem kinds_tVal_command (bs : List Int) : (tVal [0, 0, 0, 0, 0, 0, 3, 0, 0, 0, 2, 0, 3, 3, 0, 0, 0, 0, 0, 0, 3, 3, 0, 0, 4] bs).map Atom.k = [0, 0, 0, 0, 0, 0, 3, 0, 0, 0, 2, 0, 3, 3, 0, 0, 0, 0, 0, 0, 3, 3, 0, 0, 4] := tVal_kinds _ _ (by decide)
set_option maxRecDepth 100000 in
theorem ccall_command {w : World} {cs : Array Value} {xs : List Atom} (h : Vals w (fun b => b < w.heap.size) cs xs) (hk : xs.map Atom.k = [0, 0, 0, 0, 0, 0, 3, 0, 0, 0, 2, 0, 3, 3, 0, 0, 0, 0, 0, 0, 3, 3, 0, 0, 4]) :
    Calls Tryz.prog 18 #[.agg cs] w fun e w' => ∃ a cp, e = .returned (.tuple #[.slice a (wBytes (flds xs)).length cp, .int .i64 (wErr (flds xs))]) ∧ Mine w' w.heap.size a (wBytes (flds xs)).length cp (wBytes (flds xs)) ∧ Below w.heap.size w w' := by
  have b1 : Below w.heap.size w (w.alloc (.cells cs 68)) := Below.alloc (Below.refl _ _) (Nat.le_refl _) _
  have hi : (Tryz.prog.info? 68).map (·.size) = some cs.size := by rw [h.size_of hk]; exact info_command
  have C := cwritten_command (h.below b1) hk
  obtain ⟨bs, eb⟩ : ∃ bs, bs = wBytes (flds xs) := ⟨_, rfl⟩
  obtain ⟨n, en⟩ : ∃ n, n = bs.length := ⟨_, rfl⟩
  rw [← eb, ← en] at C ⊢
  have C := hide C
  have B1 := hide b1
  have HI := hide hi
  have ROW := hide (heap_alloc_new w (.cells cs 68))
  have hsz : cs.size = 25 := h.size_of hk
  clear h hk eb en b1 hi
  go_enter Tryz.func18, Tryz.ntmps18
  go_wp2_with (refine wpList_load_row rfl 68 (.tmp 1) rfl w.heap.size rfl 68 cs (0, 0) _ ROW.out Tryz.underlying68 rfl HI.out ?_)
  refine C.out.mono ?_
  rintro e w1 ⟨a, cp, rfl, hm, hb⟩
  have M := hide (hm.base (B' := w.heap.size) B1.out.size)
  have B := hide (below_step B1.out hb)
  clear hm hb C
  go_wp2_with fail
  go_ret2
  exact ⟨a, cp, rfl, M.out, B.out⟩
end Go.Proofs.YtmajhkmgdkbjoaaGreat
