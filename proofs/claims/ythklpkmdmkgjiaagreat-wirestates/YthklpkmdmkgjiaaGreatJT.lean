/- What the landed Command and ReadCommand do. No condition but the size. wire's calls Command and ReadCommand. No condition but the size. What the law folder's awake answers: true. No condition. -/
import Derived.Test.YthklpkmdmkgjiaaGreatJI
import Derived.Deep.Cut
import Derived.Test.YthklpkmdmkgjiaaGreatJA
namespace Go.Proofs.YthklpkmdmkgjiaaGreat
open Go.ChangeShapes Go.WideShapes Go.ChangeAt Go.RowKit B8 Cm Wm
set_option linter.unusedVariables false

set_option maxRecDepth 100000 in
set_option maxHeartbeats 1000000 in
theorem cwritten_command {w : World} {cs : Array Value} {xs : List Atom} (h : Vals w (fun b => b < w.heap.size) cs xs) (hk : xs.map Atom.k = [0, 0, 0, 0, 0, 0, 3, 0, 0, 0, 2, 0, 3, 3, 0, 0, 0, 0, 0, 0, 3, 3, 0, 0, 4]) :
    Calls Tryz.prog 58 #[.agg cs, .func (.func 59) #[] #[]] w fun e w' => ∃ a cp, e = .returned (.tuple #[.slice a (wBytes (flds xs)).length cp, .int .i64 (wErr (flds xs))]) ∧ Mine w' w.heap.size a (wBytes (flds xs)).length cp (wBytes (flds xs)) ∧ Below w.heap.size w w' := by
  have hb1 : Below w.heap.size w (w.alloc (.cells cs 60)) := Below.alloc (Below.refl _ _) (Nat.le_refl _) _
  have hb2 : Below w.heap.size w ((w.alloc (.cells cs 60)).alloc (.cells #[.slice none 0 0, .bool false] 78)) := below_alloc hb1 _
  have ws : WS ((w.alloc (.cells cs 60)).alloc (.cells #[.slice none 0 0, .bool false] 78)) w.heap.size (w.heap.size + 1) [] := by
    have := ws_new (B := w.heap.size) (w.alloc (.cells cs 60)) hb1.size
    simpa using this
  have hn : ∀ k, Wown (w.heap.size + 1) ((w.alloc (.cells cs 60)).alloc (.cells #[.slice none 0 0, .bool false] 78)) k → k = w.heap.size + 1 := by
    intro k hk
    have := wown_first (w.alloc (.cells cs 60)) (k := k)
    simp only [World.size_alloc] at this
    exact this hk
  have hm : ((w.alloc (.cells cs 60)).alloc (.cells #[.slice none 0 0, .bool false] 78)).heap[w.heap.size]? = some (.cells cs 60) := heap_alloc2_old w _ _
  have hM : w.heap.size < ((w.alloc (.cells cs 60)).alloc (.cells #[.slice none 0 0, .bool false] 78)).heap.size := by simp; omega
  have hS : ¬ Wown (w.heap.size + 1) ((w.alloc (.cells cs 60)).alloc (.cells #[.slice none 0 0, .bool false] 78)) w.heap.size := fun e => by have := hn _ e; omega
  have fl := flat_of_vals hm (h.same (w1 := (w.alloc (.cells cs 60)).alloc (.cells #[.slice none 0 0, .bool false] 78)) (P' := Out (Wown (w.heap.size + 1)) w.heap.size ((w.alloc (.cells cs 60)).alloc (.cells #[.slice none 0 0, .bool false] 78))) fun b hb => ⟨⟨by omega, fun e => by have := hn _ e; omega, by omega⟩, hb2.block b hb⟩)
  have C1 := hide (wcommand_any (fs := []) ws (Nat.le_trans (Nat.le_refl _) hb2.size) fl hk hM hS)
  have hlow : ∀ k, Wown (w.heap.size + 1) ((w.alloc (.cells cs 60)).alloc (.cells #[.slice none 0 0, .bool false] 78)) k → w.heap.size ≤ k := fun k hk => by have := hn _ hk; omega
  have HLOW := hide hlow
  have HB2 := hide hb2
  have hsz : cs.size = 25 := by rw [h.1]; have := congrArg List.length hk; simpa using this
  have HM := hide hm
  clear hb1 hb2 ws hn hm hM hS fl hlow h hk
  go_enter Tryz.func58, Tryz.ntmps58
  go_wp2_with fail
  refine C1.out.mono ?_
  rintro e w3 ⟨rfl, hw, hs⟩
  have B3 := hide (HB2.out.trans (hs.below HB2.out.size HLOW.out))
  have CE := hide (wend_any hw)
  clear hw hs C1 HLOW HB2 HM
  go_wp2_with fail
  refine CE.out.mono ?_
  rintro e w4 ⟨a, cp, rfl, hm4, rfl⟩
  have M4 := hide hm4
  clear hm4 CE
  go_wp2_with fail
  go_ret2
  exact ⟨a, cp, rfl, M4.out, B3.out⟩

theorem info_command : (Tryz.prog.info? 60).map (·.size) = some 25 := by kernel_rfl
theorem zero_command : ([0, 0, 0, 0, 0, 0, 3, 0, 0, 0, 2, 0, 3, 3, 0, 0, 0, 0, 0, 0, 3, 3, 0, 0, 4].map zeroV).toArray = #[.int .i64 0, .int .i64 0, .int .i64 0, .int .i64 0, .int .i64 0, .int .i64 0, .string ⟨#[]⟩, .int .i64 0, .int .i64 0, .int .i64 0, .bool false, .int .i64 0, .string ⟨#[]⟩, .string ⟨#[]⟩, .int .i64 0, .int .i64 0, .int .i64 0, .int .i64 0, .int .i64 0, .int .i64 0, .string ⟨#[]⟩, .string ⟨#[]⟩, .int .i64 0, .int .i64 0, .slice none 0 0] := rfl
end Go.Proofs.YthklpkmdmkgjiaaGreat

namespace Go.Proofs.YthklpkmdmkgjiaaGreat
open Go.ChangeShapes Go.WideShapes Go.ChangeAt Go.RowKit B8 Cm Wm
set_option linter.unusedVariables false

theorem kinds_tVal_command (bs : List Int) : (tVal [0, 0, 0, 0, 0, 0, 3, 0, 0, 0, 2, 0, 3, 3, 0, 0, 0, 0, 0, 0, 3, 3, 0, 0, 4] bs).map Atom.k = [0, 0, 0, 0, 0, 0, 3, 0, 0, 0, 2, 0, 3, 3, 0, 0, 0, 0, 0, 0, 3, 3, 0, 0, 4] := tVal_kinds _ _ (by decide)
set_option maxRecDepth 100000 in
theorem ccall_command {w : World} {cs : Array Value} {xs : List Atom} (h : Vals w (fun b => b < w.heap.size) cs xs) (hk : xs.map Atom.k = [0, 0, 0, 0, 0, 0, 3, 0, 0, 0, 2, 0, 3, 3, 0, 0, 0, 0, 0, 0, 3, 3, 0, 0, 4]) :
    Calls Tryz.prog 20 #[.agg cs] w fun e w' => ∃ a cp, e = .returned (.tuple #[.slice a (wBytes (flds xs)).length cp, .int .i64 (wErr (flds xs))]) ∧ Mine w' w.heap.size a (wBytes (flds xs)).length cp (wBytes (flds xs)) ∧ Below w.heap.size w w' := by
  have b1 : Below w.heap.size w (w.alloc (.cells cs 60)) := Below.alloc (Below.refl _ _) (Nat.le_refl _) _
  have hi : (Tryz.prog.info? 60).map (·.size) = some cs.size := by rw [h.size_of hk]; exact info_command
  have C := cwritten_command (h.below b1) hk
  obtain ⟨bs, eb⟩ : ∃ bs, bs = wBytes (flds xs) := ⟨_, rfl⟩
  obtain ⟨n, en⟩ : ∃ n, n = bs.length := ⟨_, rfl⟩
  rw [← eb, ← en] at C ⊢
  have C := hide C
  have B1 := hide b1
  have HI := hide hi
  have ROW := hide (heap_alloc_new w (.cells cs 60))
  have hsz : cs.size = 25 := h.size_of hk
  clear h hk eb en b1 hi
  go_enter Tryz.func20, Tryz.ntmps20
  go_wp2_with (refine wpList_load_row rfl 60 (.tmp 1) rfl w.heap.size rfl 60 cs (0, 0) _ ROW.out Tryz.underlying60 rfl HI.out ?_)
  refine C.out.mono ?_
  rintro e w1 ⟨a, cp, rfl, hm, hb⟩
  have M := hide (hm.base (B' := w.heap.size) B1.out.size)
  have B := hide (below_step B1.out hb)
  clear hm hb C
  go_wp2_with fail
  go_ret2
  exact ⟨a, cp, rfl, M.out, B.out⟩
end Go.Proofs.YthklpkmdmkgjiaaGreat

namespace Go.Proofs.YthklpkmdmkgjiaaGreat
open Go.ChangeShapes Go.WideShapes Go.ChangeAt Go.RowKit B8 Cm Wm
set_option linter.unusedVariables false

theorem awake_zero : (wBytes (flds ([0, 0, 0, 0, 0, 0, 3, 0, 0, 0, 2, 0, 3, 3, 0, 0, 0, 0, 0, 0, 3, 3, 0, 0, 4].map zeroA))).length = 25 ∧ wErr (flds ([0, 0, 0, 0, 0, 0, 3, 0, 0, 0, 2, 0, 3, 3, 0, 0, 0, 0, 0, 0, 3, 3, 0, 0, 4].map zeroA)) = 0 := by decide
theorem wawake_any (w : World) : Calls Tryz.prog 9 #[] w fun e w' => e = .returned (.bool true) ∧ Below w.heap.size w w' := by
  have hz : Vals w (fun b => b < w.heap.size) #[.int .i64 0, .int .i64 0, .int .i64 0, .int .i64 0, .int .i64 0, .int .i64 0, .string ⟨#[]⟩, .int .i64 0, .int .i64 0, .int .i64 0, .bool false, .int .i64 0, .string ⟨#[]⟩, .string ⟨#[]⟩, .int .i64 0, .int .i64 0, .int .i64 0, .int .i64 0, .int .i64 0, .int .i64 0, .string ⟨#[]⟩, .string ⟨#[]⟩, .int .i64 0, .int .i64 0, .slice none 0 0] ([0, 0, 0, 0, 0, 0, 3, 0, 0, 0, 2, 0, 3, 3, 0, 0, 0, 0, 0, 0, 3, 3, 0, 0, 4].map zeroA) := by
    have := vals_zero w (fun b => b < w.heap.size) [0, 0, 0, 0, 0, 0, 3, 0, 0, 0, 2, 0, 3, 3, 0, 0, 0, 0, 0, 0, 3, 3, 0, 0, 4] (by decide)
    rw [zero_command] at this
    exact this
  have C := ccall_command hz (by decide)
  rw [awake_zero.1, awake_zero.2] at C
  have C := hide C
  clear hz
  go_enter Tryz.func9, Tryz.ntmps9
  go_wp2_with fail
  refine C.out.mono ?_
  rintro e w1 ⟨a, cp, rfl, hm, hb⟩
  have B := hide hb
  clear hm hb C
  go_wp2_with fail
  go_ret
  exact ⟨rfl, B.out⟩
end Go.Proofs.YthklpkmdmkgjiaaGreat
