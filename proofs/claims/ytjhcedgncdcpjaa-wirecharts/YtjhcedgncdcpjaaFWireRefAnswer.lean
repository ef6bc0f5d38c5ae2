/- The walk of the document's function answer over a thing, whichever way it goes. No condition. -/
import Derived.Test.YtjhcedgncdcpjaaJA
import Derived.Deep.RegionHeld3
import Derived.Deep.DeepCutAuto
namespace Go.Proofs.Ytjhcedgncdcpjaa
open Go.ChangeShapes Go.WideShapes Go.ChangeAt Go.RowKit
set_option linter.unusedVariables false

set_option maxRecDepth 100000 in
set_option maxHeartbeats 4000000 in
theorem doc_answer {W M o : Nat} {z : Int} {R0 : World → Prop} {R1 : Nat → World → Prop} {R2 R3 : World → Prop}
    (L0 : ∀ w, R0 w → w.cell? ⟨M, o, none⟩ = some (.int .i64 z))
    (C0 : ∀ w, R0 w → Calls Try.prog 31 #[.pointer (some ⟨W, 0, none⟩), .pointer (some ⟨w.heap.size, 0, none⟩)] (w.alloc (.cells #[.int .i64 z] 3)) fun e w' => e = .returned (.tuple #[]) ∧ R1 w.heap.size w')
    (L1 : ∀ N w, R1 N w → ∃ y : Int, w.cell? ⟨N, 0, none⟩ = some (.int .i64 y) ∧ (∃ v, w.cell? ⟨M, o, none⟩ = some v) ∧ w.frozen? ⟨M, o, none⟩ = false ∧ R2 (w.setCell ⟨M, o, none⟩ (.int .i64 y)))
    (C1 : ∀ w, R2 w → Calls Try.prog 33 #[.pointer (some ⟨W, 0, none⟩), .slice (some ⟨w.heap.size, 0, none⟩) 3 3] (w.alloc (.cells #[.pointer (some ⟨M, o + 1, none⟩), .pointer (some ⟨M, o + 2, none⟩), .pointer (some ⟨M, o + 3, none⟩)] 71)).drew fun e w' => e = .returned (.tuple #[]) ∧ R3 w')
    (w : World) (h : R0 w) :
    Calls Try.prog 56 #[.pointer (some ⟨W, 0, none⟩), .pointer (some ⟨M, o, none⟩)] w fun e w' => e = .returned (.tuple #[]) ∧ R3 w' := by
  have c0 := L0 w h
  have D0 := hide (C0 w h)
  have E1 := hide L1
  have D1 := hide C1
  clear h C0 L1 C1 L0
  go_enter Try.func56, Try.ntmps56
  go_wp2_with fail
  refine D0.out.mono ?_
  rintro e w1 ⟨rfl, hw⟩
  obtain ⟨y, y0, ⟨v, y1⟩, y2, hr⟩ := E1.out _ _ hw
  have H2 := hide hr
  clear hw hr D0 c0
  go_wp2_with fail
  obtain ⟨w2, e2⟩ : ∃ w2, w2 = w1.setCell ⟨M, o, none⟩ (.int .i64 y) := ⟨_, rfl⟩
  rw [← e2] at H2 ⊢
  clear e2 y0 y1 y2
  go_region_held3 (fun _ => True) (exact True.intro) ((go_at_call 33; refine (D1.out _ H2.out).mono ?_; rintro e w3 ⟨rfl, hw⟩))
  all_goals (have HW := hide hw; clear hw; go_wp2_with fail; refine bodyPost_end (results_none rfl _ _ _) rfl ?_; exact ⟨rfl, HW.out⟩)
end Go.Proofs.Ytjhcedgncdcpjaa
