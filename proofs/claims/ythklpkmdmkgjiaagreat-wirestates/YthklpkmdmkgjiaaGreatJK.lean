/- The walk of the document's function op over a thing, whichever way it goes. No condition. The walk of the document's function plan over a thing, whichever way it goes. No condition. The walk of the document's function wait over a thing, whichever way it goes. No condition. The walk of the document's function deal over a thing, whichever way it goes. No condition. The walk of the document's function holder over a thing, whichever way it goes. No condition. The walk of the document's function lock over a thing, whichever way it goes. No condition. The walk of the document's function end over a thing, whichever way it goes. No condition. The walk of the document's function span over a thing, whichever way it goes. No condition. The walk of the document's function answer over a thing, whichever way it goes. No condition. The walk of the document's function mark over a thing, whichever way it goes. No condition. The walk of the document's function account over a thing, whichever way it goes. No condition. The walk of the document's function State over a thing, whichever way it goes. No condition. -/
import Derived.Test.YthklpkmdmkgjiaaGreatJA
import Derived.Deep.RegionHeld3
import Derived.Deep.DeepCutAuto
namespace Go.Proofs.YthklpkmdmkgjiaaGreat
open Go.ChangeShapes Go.WideShapes Go.ChangeAt Go.RowKit
set_option linter.unusedVariables false

set_option maxRecDepth 100000 in
set_option maxHeartbeats 4000000 in
theorem doc_op {W M o : Nat} {R0 R1 R2 R3 R4 : World → Prop}
    (C0 : ∀ w, R0 w → Calls Tryz.prog 47 #[.pointer (some ⟨W, 0, none⟩), .pointer (some ⟨M, o, none⟩)] w fun e w' => e = .returned (.tuple #[]) ∧ R1 w')
    (C1 : ∀ w, R1 w → Calls Tryz.prog 46 #[.pointer (some ⟨W, 0, none⟩), .pointer (some ⟨M, o + 1, none⟩)] w fun e w' => e = .returned (.tuple #[]) ∧ R2 w')
    (C2 : ∀ w, R2 w → Calls Tryz.prog 46 #[.pointer (some ⟨W, 0, none⟩), .pointer (some ⟨M, o + 2, none⟩)] w fun e w' => e = .returned (.tuple #[]) ∧ R3 w')
    (C3 : ∀ w, R3 w → Calls Tryz.prog 44 #[.pointer (some ⟨W, 0, none⟩), .slice (some ⟨w.heap.size, 0, none⟩) 3 3] (w.alloc (.cells #[.pointer (some ⟨M, o + 3, none⟩), .pointer (some ⟨M, o + 4, none⟩), .pointer (some ⟨M, o + 5, none⟩)] 82)).drew fun e w' => e = .returned (.tuple #[]) ∧ R4 w')
    (w : World) (h : R0 w) :
    Calls Tryz.prog 89 #[.pointer (some ⟨W, 0, none⟩), .pointer (some ⟨M, o, none⟩)] w fun e w' => e = .returned (.tuple #[]) ∧ R4 w' := by
  have D0 := hide C0
  have D1 := hide C1
  have D2 := hide C2
  have D3 := hide C3
  have H0 := hide h
  clear h C0 C1 C2 C3
  go_enter Tryz.func89, Tryz.ntmps89
  go_wp2_with fail
  refine (D0.out _ H0.out).mono ?_
  rintro e wc1 ⟨rfl, hw⟩
  have H1 := hide hw
  clear hw H0
  go_wp2_with fail
  refine (D1.out _ H1.out).mono ?_
  rintro e wc2 ⟨rfl, hw⟩
  have H2 := hide hw
  clear hw H1
  go_wp2_with fail
  refine (D2.out _ H2.out).mono ?_
  rintro e wc3 ⟨rfl, hw⟩
  have H3 := hide hw
  clear hw H2
  go_wp2_with fail
  go_region_held3 (fun _ => True) (exact True.intro) ((go_at_call 44; refine (D3.out _ H3.out).mono ?_; rintro e w1 ⟨rfl, hw⟩))
  all_goals (have HW := hide hw; clear hw; go_wp2_with fail; refine bodyPost_end (results_none rfl _ _ _) rfl ?_; exact ⟨rfl, HW.out⟩)
end Go.Proofs.YthklpkmdmkgjiaaGreat

namespace Go.Proofs.YthklpkmdmkgjiaaGreat
open Go.ChangeShapes Go.WideShapes Go.ChangeAt Go.RowKit
set_option linter.unusedVariables false

set_option maxRecDepth 100000 in
set_option maxHeartbeats 4000000 in
theorem doc_plan {W M o : Nat} {R0 R1 R2 R3 R4 : World → Prop}
    (C0 : ∀ w, R0 w → Calls Tryz.prog 44 #[.pointer (some ⟨W, 0, none⟩), .slice (some ⟨w.heap.size, 0, none⟩) 3 3] (w.alloc (.cells #[.pointer (some ⟨M, o, none⟩), .pointer (some ⟨M, o + 1, none⟩), .pointer (some ⟨M, o + 2, none⟩)] 82)).drew fun e w' => e = .returned (.tuple #[]) ∧ R1 w')
    (C1 : ∀ w, R1 w → Calls Tryz.prog 46 #[.pointer (some ⟨W, 0, none⟩), .pointer (some ⟨M, o + 3, none⟩)] w fun e w' => e = .returned (.tuple #[]) ∧ R2 w')
    (C2 : ∀ w, R2 w → Calls Tryz.prog 46 #[.pointer (some ⟨W, 0, none⟩), .pointer (some ⟨M, o + 4, none⟩)] w fun e w' => e = .returned (.tuple #[]) ∧ R3 w')
    (C3 : ∀ w, R3 w → Calls Tryz.prog 44 #[.pointer (some ⟨W, 0, none⟩), .slice (some ⟨w.heap.size, 0, none⟩) 2 2] (w.alloc (.cells #[.pointer (some ⟨M, o + 5, none⟩), .pointer (some ⟨M, o + 6, none⟩)] 82)).drew fun e w' => e = .returned (.tuple #[]) ∧ R4 w')
    (w : World) (h : R0 w) :
    Calls Tryz.prog 53 #[.pointer (some ⟨W, 0, none⟩), .pointer (some ⟨M, o, none⟩)] w fun e w' => e = .returned (.tuple #[]) ∧ R4 w' := by
  have D0 := hide C0
  have D1 := hide C1
  have D2 := hide C2
  have D3 := hide C3
  have H0 := hide h
  clear h C0 C1 C2 C3
  go_enter Tryz.func53, Tryz.ntmps53
  go_wp2_with fail
  go_cut [] (fun w2 => Hid (R1 w2))
  case first =>
    go_region_held3 (fun _ => True) (exact True.intro) ((go_at_call 44; refine (D0.out _ H0.out).mono ?_; rintro e w1 ⟨rfl, hw⟩))
    all_goals (have HW := hide hw; clear hw; go_wp2_with fail; go_meet; case rel => exact HW)
  case rest =>
    have H1 := hcut
    clear hcut H0
    go_wp2_with fail
    refine (D1.out _ H1.out).mono ?_
    rintro e wc2 ⟨rfl, hw⟩
    have H2 := hide hw
    clear hw H1
    go_wp2_with fail
    refine (D2.out _ H2.out).mono ?_
    rintro e wc3 ⟨rfl, hw⟩
    have H3 := hide hw
    clear hw H2
    go_wp2_with fail
    go_region_held3 (fun _ => True) (exact True.intro) ((go_at_call 44; refine (D3.out _ H3.out).mono ?_; rintro e w1 ⟨rfl, hw⟩))
    all_goals (have HW := hide hw; clear hw; go_wp2_with fail; refine bodyPost_end (results_none rfl _ _ _) rfl ?_; exact ⟨rfl, HW.out⟩)
end Go.Proofs.YthklpkmdmkgjiaaGreat

namespace Go.Proofs.YthklpkmdmkgjiaaGreat
open Go.ChangeShapes Go.WideShapes Go.ChangeAt Go.RowKit
set_option linter.unusedVariables false

set_option maxRecDepth 100000 in
set_option maxHeartbeats 4000000 in
theorem doc_wait {W M o : Nat} {R0 R1 R2 : World → Prop}
    (C0 : ∀ w, R0 w → Calls Tryz.prog 44 #[.pointer (some ⟨W, 0, none⟩), .slice (some ⟨w.heap.size, 0, none⟩) 5 5] (w.alloc (.cells #[.pointer (some ⟨M, o, none⟩), .pointer (some ⟨M, o + 1, none⟩), .pointer (some ⟨M, o + 2, none⟩), .pointer (some ⟨M, o + 3, none⟩), .pointer (some ⟨M, o + 4, none⟩)] 82)).drew fun e w' => e = .returned (.tuple #[]) ∧ R1 w')
    (C1 : ∀ w, R1 w → Calls Tryz.prog 89 #[.pointer (some ⟨W, 0, none⟩), .pointer (some ⟨M, o + 5, none⟩)] w fun e w' => e = .returned (.tuple #[]) ∧ R2 w')
    (w : World) (h : R0 w) :
    Calls Tryz.prog 72 #[.pointer (some ⟨W, 0, none⟩), .pointer (some ⟨M, o, none⟩)] w fun e w' => e = .returned (.tuple #[]) ∧ R2 w' := by
  have D0 := hide C0
  have D1 := hide C1
  have H0 := hide h
  clear h C0 C1
  go_enter Tryz.func72, Tryz.ntmps72
  go_wp2_with fail
  go_cut [] (fun w2 => Hid (R1 w2))
  case first =>
    go_region_held3 (fun _ => True) (exact True.intro) ((go_at_call 44; refine (D0.out _ H0.out).mono ?_; rintro e w1 ⟨rfl, hw⟩))
    all_goals (have HW := hide hw; clear hw; go_wp2_with fail; go_meet; case rel => exact HW)
  case rest =>
    have H1 := hcut
    clear hcut H0
    go_wp2_with fail
    refine (D1.out _ H1.out).mono ?_
    rintro e wc2 ⟨rfl, hw⟩
    have H2 := hide hw
    clear hw H1
    go_wp2_with fail
    refine bodyPost_end (results_none rfl _ _ _) rfl ?_
    exact ⟨rfl, H2.out⟩
end Go.Proofs.YthklpkmdmkgjiaaGreat

namespace Go.Proofs.YthklpkmdmkgjiaaGreat
open Go.ChangeShapes Go.WideShapes Go.ChangeAt Go.RowKit
set_option linter.unusedVariables false

set_option maxRecDepth 100000 in
set_option maxHeartbeats 4000000 in
theorem doc_deal {W M o : Nat} {R0 R1 R2 R3 R4 : World → Prop}
    (C0 : ∀ w, R0 w → Calls Tryz.prog 44 #[.pointer (some ⟨W, 0, none⟩), .slice (some ⟨w.heap.size, 0, none⟩) 2 2] (w.alloc (.cells #[.pointer (some ⟨M, o, none⟩), .pointer (some ⟨M, o + 1, none⟩)] 82)).drew fun e w' => e = .returned (.tuple #[]) ∧ R1 w')
    (C1 : ∀ w, R1 w → Calls Tryz.prog 46 #[.pointer (some ⟨W, 0, none⟩), .pointer (some ⟨M, o + 2, none⟩)] w fun e w' => e = .returned (.tuple #[]) ∧ R2 w')
    (C2 : ∀ w, R2 w → Calls Tryz.prog 46 #[.pointer (some ⟨W, 0, none⟩), .pointer (some ⟨M, o + 3, none⟩)] w fun e w' => e = .returned (.tuple #[]) ∧ R3 w')
    (C3 : ∀ w, R3 w → Calls Tryz.prog 44 #[.pointer (some ⟨W, 0, none⟩), .slice (some ⟨w.heap.size, 0, none⟩) 4 4] (w.alloc (.cells #[.pointer (some ⟨M, o + 4, none⟩), .pointer (some ⟨M, o + 5, none⟩), .pointer (some ⟨M, o + 6, none⟩), .pointer (some ⟨M, o + 7, none⟩)] 82)).drew fun e w' => e = .returned (.tuple #[]) ∧ R4 w')
    (w : World) (h : R0 w) :
    Calls Tryz.prog 73 #[.pointer (some ⟨W, 0, none⟩), .pointer (some ⟨M, o, none⟩)] w fun e w' => e = .returned (.tuple #[]) ∧ R4 w' := by
  have D0 := hide C0
  have D1 := hide C1
  have D2 := hide C2
  have D3 := hide C3
  have H0 := hide h
  clear h C0 C1 C2 C3
  go_enter Tryz.func73, Tryz.ntmps73
  go_wp2_with fail
  go_cut [] (fun w2 => Hid (R1 w2))
  case first =>
    go_region_held3 (fun _ => True) (exact True.intro) ((go_at_call 44; refine (D0.out _ H0.out).mono ?_; rintro e w1 ⟨rfl, hw⟩))
    all_goals (have HW := hide hw; clear hw; go_wp2_with fail; go_meet; case rel => exact HW)
  case rest =>
    have H1 := hcut
    clear hcut H0
    go_wp2_with fail
    refine (D1.out _ H1.out).mono ?_
    rintro e wc2 ⟨rfl, hw⟩
    have H2 := hide hw
    clear hw H1
    go_wp2_with fail
    refine (D2.out _ H2.out).mono ?_
    rintro e wc3 ⟨rfl, hw⟩
    have H3 := hide hw
    clear hw H2
    go_wp2_with fail
    go_region_held3 (fun _ => True) (exact True.intro) ((go_at_call 44; refine (D3.out _ H3.out).mono ?_; rintro e w1 ⟨rfl, hw⟩))
    all_goals (have HW := hide hw; clear hw; go_wp2_with fail; refine bodyPost_end (results_none rfl _ _ _) rfl ?_; exact ⟨rfl, HW.out⟩)
end Go.Proofs.YthklpkmdmkgjiaaGreat

namespace Go.Proofs.YthklpkmdmkgjiaaGreat
open Go.ChangeShapes Go.WideShapes Go.ChangeAt Go.RowKit
set_option linter.unusedVariables false

set_option maxRecDepth 100000 in
set_option maxHeartbeats 4000000 in
theorem doc_holder {W M o : Nat} {R0 R1 : World → Prop}
    (C0 : ∀ w, R0 w → Calls Tryz.prog 44 #[.pointer (some ⟨W, 0, none⟩), .slice (some ⟨w.heap.size, 0, none⟩) 4 4] (w.alloc (.cells #[.pointer (some ⟨M, o, none⟩), .pointer (some ⟨M, o + 1, none⟩), .pointer (some ⟨M, o + 2, none⟩), .pointer (some ⟨M, o + 3, none⟩)] 82)).drew fun e w' => e = .returned (.tuple #[]) ∧ R1 w')
    (w : World) (h : R0 w) :
    Calls Tryz.prog 93 #[.pointer (some ⟨W, 0, none⟩), .pointer (some ⟨M, o, none⟩)] w fun e w' => e = .returned (.tuple #[]) ∧ R1 w' := by
  have D0 := hide C0
  have H0 := hide h
  clear h C0
  go_enter Tryz.func93, Tryz.ntmps93
  go_wp2_with fail
  go_region_held3 (fun _ => True) (exact True.intro) ((go_at_call 44; refine (D0.out _ H0.out).mono ?_; rintro e w1 ⟨rfl, hw⟩))
  all_goals (have HW := hide hw; clear hw; go_wp2_with fail; refine bodyPost_end (results_none rfl _ _ _) rfl ?_; exact ⟨rfl, HW.out⟩)
end Go.Proofs.YthklpkmdmkgjiaaGreat

namespace Go.Proofs.YthklpkmdmkgjiaaGreat
open Go.ChangeShapes Go.WideShapes Go.ChangeAt Go.RowKit
set_option linter.unusedVariables false

set_option maxRecDepth 100000 in
set_option maxHeartbeats 4000000 in
theorem doc_lock {W M o : Nat} {R0 R1 : World → Prop}
    (C0 : ∀ w, R0 w → Calls Tryz.prog 44 #[.pointer (some ⟨W, 0, none⟩), .slice (some ⟨w.heap.size, 0, none⟩) 4 4] (w.alloc (.cells #[.pointer (some ⟨M, o, none⟩), .pointer (some ⟨M, o + 1, none⟩), .pointer (some ⟨M, o + 2, none⟩), .pointer (some ⟨M, o + 3, none⟩)] 82)).drew fun e w' => e = .returned (.tuple #[]) ∧ R1 w')
    (w : World) (h : R0 w) :
    Calls Tryz.prog 87 #[.pointer (some ⟨W, 0, none⟩), .pointer (some ⟨M, o, none⟩)] w fun e w' => e = .returned (.tuple #[]) ∧ R1 w' := by
  have D0 := hide C0
  have H0 := hide h
  clear h C0
  go_enter Tryz.func87, Tryz.ntmps87
  go_wp2_with fail
  go_region_held3 (fun _ => True) (exact True.intro) ((go_at_call 44; refine (D0.out _ H0.out).mono ?_; rintro e w1 ⟨rfl, hw⟩))
  all_goals (have HW := hide hw; clear hw; go_wp2_with fail; refine bodyPost_end (results_none rfl _ _ _) rfl ?_; exact ⟨rfl, HW.out⟩)
end Go.Proofs.YthklpkmdmkgjiaaGreat

namespace Go.Proofs.YthklpkmdmkgjiaaGreat
open Go.ChangeShapes Go.WideShapes Go.ChangeAt Go.RowKit
set_option linter.unusedVariables false

set_option maxRecDepth 100000 in
set_option maxHeartbeats 4000000 in
theorem doc_end {W M o : Nat} {R0 R1 : World → Prop}
    (C0 : ∀ w, R0 w → Calls Tryz.prog 44 #[.pointer (some ⟨W, 0, none⟩), .slice (some ⟨w.heap.size, 0, none⟩) 2 2] (w.alloc (.cells #[.pointer (some ⟨M, o, none⟩), .pointer (some ⟨M, o + 1, none⟩)] 82)).drew fun e w' => e = .returned (.tuple #[]) ∧ R1 w')
    (w : World) (h : R0 w) :
    Calls Tryz.prog 74 #[.pointer (some ⟨W, 0, none⟩), .pointer (some ⟨M, o, none⟩)] w fun e w' => e = .returned (.tuple #[]) ∧ R1 w' := by
  have D0 := hide C0
  have H0 := hide h
  clear h C0
  go_enter Tryz.func74, Tryz.ntmps74
  go_wp2_with fail
  go_region_held3 (fun _ => True) (exact True.intro) ((go_at_call 44; refine (D0.out _ H0.out).mono ?_; rintro e w1 ⟨rfl, hw⟩))
  all_goals (have HW := hide hw; clear hw; go_wp2_with fail; refine bodyPost_end (results_none rfl _ _ _) rfl ?_; exact ⟨rfl, HW.out⟩)
end Go.Proofs.YthklpkmdmkgjiaaGreat

namespace Go.Proofs.YthklpkmdmkgjiaaGreat
open Go.ChangeShapes Go.WideShapes Go.ChangeAt Go.RowKit
set_option linter.unusedVariables false

set_option maxRecDepth 100000 in
set_option maxHeartbeats 4000000 in
theorem doc_span {W M o : Nat} {R0 R1 : World → Prop}
    (C0 : ∀ w, R0 w → Calls Tryz.prog 44 #[.pointer (some ⟨W, 0, none⟩), .slice (some ⟨w.heap.size, 0, none⟩) 2 2] (w.alloc (.cells #[.pointer (some ⟨M, o, none⟩), .pointer (some ⟨M, o + 1, none⟩)] 82)).drew fun e w' => e = .returned (.tuple #[]) ∧ R1 w')
    (w : World) (h : R0 w) :
    Calls Tryz.prog 85 #[.pointer (some ⟨W, 0, none⟩), .pointer (some ⟨M, o, none⟩)] w fun e w' => e = .returned (.tuple #[]) ∧ R1 w' := by
  have D0 := hide C0
  have H0 := hide h
  clear h C0
  go_enter Tryz.func85, Tryz.ntmps85
  go_wp2_with fail
  go_region_held3 (fun _ => True) (exact True.intro) ((go_at_call 44; refine (D0.out _ H0.out).mono ?_; rintro e w1 ⟨rfl, hw⟩))
  all_goals (have HW := hide hw; clear hw; go_wp2_with fail; refine bodyPost_end (results_none rfl _ _ _) rfl ?_; exact ⟨rfl, HW.out⟩)
end Go.Proofs.YthklpkmdmkgjiaaGreat

namespace Go.Proofs.YthklpkmdmkgjiaaGreat
open Go.ChangeShapes Go.WideShapes Go.ChangeAt Go.RowKit
set_option linter.unusedVariables false

set_option maxRecDepth 100000 in
set_option maxHeartbeats 4000000 in
theorem doc_answer {W M o : Nat} {z : Int} {R0 : World → Prop} {R1 : Nat → World → Prop} {R2 R3 : World → Prop}
    (L0 : ∀ w, R0 w → w.cell? ⟨M, o, none⟩ = some (.int .i64 z))
    (C0 : ∀ w, R0 w → Calls Tryz.prog 47 #[.pointer (some ⟨W, 0, none⟩), .pointer (some ⟨w.heap.size, 0, none⟩)] (w.alloc (.cells #[.int .i64 z] 3)) fun e w' => e = .returned (.tuple #[]) ∧ R1 w.heap.size w')
    (L1 : ∀ N w, R1 N w → ∃ y : Int, w.cell? ⟨N, 0, none⟩ = some (.int .i64 y) ∧ (∃ v, w.cell? ⟨M, o, none⟩ = some v) ∧ w.frozen? ⟨M, o, none⟩ = false ∧ R2 (w.setCell ⟨M, o, none⟩ (.int .i64 y)))
    (C1 : ∀ w, R2 w → Calls Tryz.prog 44 #[.pointer (some ⟨W, 0, none⟩), .slice (some ⟨w.heap.size, 0, none⟩) 3 3] (w.alloc (.cells #[.pointer (some ⟨M, o + 1, none⟩), .pointer (some ⟨M, o + 2, none⟩), .pointer (some ⟨M, o + 3, none⟩)] 82)).drew fun e w' => e = .returned (.tuple #[]) ∧ R3 w')
    (w : World) (h : R0 w) :
    Calls Tryz.prog 88 #[.pointer (some ⟨W, 0, none⟩), .pointer (some ⟨M, o, none⟩)] w fun e w' => e = .returned (.tuple #[]) ∧ R3 w' := by
  have c0 := L0 w h
  have D0 := hide (C0 w h)
  have E1 := hide L1
  have D1 := hide C1
  clear h C0 L1 C1 L0
  go_enter Tryz.func88, Tryz.ntmps88
  go_wp2_with fail
  refine D0.out.mono ?_
  rintro e w1 ⟨rfl, hw⟩
  obtain ⟨y, y0, ⟨v, y1⟩, y2, hr⟩ := E1.out _ _ hw
  have H2 := hide hr
  clear hw hr D0 c0
  go_wp2_with fail
  obtain ⟨w2, e2⟩ : ∃ w2, w2 = w1.setCell ⟨M, o, none⟩ (.int .i64 y) := ⟨_, rfl⟩
  rw [← e2] at H2 ⊢
  clear e2 y0 y1 y2
  go_region_held3 (fun _ => True) (exact True.intro) ((go_at_call 44; refine (D1.out _ H2.out).mono ?_; rintro e w3 ⟨rfl, hw⟩))
  all_goals (have HW := hide hw; clear hw; go_wp2_with fail; refine bodyPost_end (results_none rfl _ _ _) rfl ?_; exact ⟨rfl, HW.out⟩)
end Go.Proofs.YthklpkmdmkgjiaaGreat

namespace Go.Proofs.YthklpkmdmkgjiaaGreat
open Go.ChangeShapes Go.WideShapes Go.ChangeAt Go.RowKit
set_option linter.unusedVariables false

set_option maxRecDepth 100000 in
set_option maxHeartbeats 4000000 in
theorem doc_mark {W M o : Nat} {R0 R1 R2 R3 : World → Prop}
    (C0 : ∀ w, R0 w → Calls Tryz.prog 44 #[.pointer (some ⟨W, 0, none⟩), .slice (some ⟨w.heap.size, 0, none⟩) 2 2] (w.alloc (.cells #[.pointer (some ⟨M, o, none⟩), .pointer (some ⟨M, o + 1, none⟩)] 82)).drew fun e w' => e = .returned (.tuple #[]) ∧ R1 w')
    (C1 : ∀ w, R1 w → Calls Tryz.prog 45 #[.pointer (some ⟨W, 0, none⟩), .pointer (some ⟨M, o + 2, none⟩)] w fun e w' => e = .returned (.tuple #[]) ∧ R2 w')
    (C2 : ∀ w, R2 w → Calls Tryz.prog 88 #[.pointer (some ⟨W, 0, none⟩), .pointer (some ⟨M, o + 3, none⟩)] w fun e w' => e = .returned (.tuple #[]) ∧ R3 w')
    (w : World) (h : R0 w) :
    Calls Tryz.prog 71 #[.pointer (some ⟨W, 0, none⟩), .pointer (some ⟨M, o, none⟩)] w fun e w' => e = .returned (.tuple #[]) ∧ R3 w' := by
  have D0 := hide C0
  have D1 := hide C1
  have D2 := hide C2
  have H0 := hide h
  clear h C0 C1 C2
  go_enter Tryz.func71, Tryz.ntmps71
  go_wp2_with fail
  go_cut [] (fun w2 => Hid (R1 w2))
  case first =>
    go_region_held3 (fun _ => True) (exact True.intro) ((go_at_call 44; refine (D0.out _ H0.out).mono ?_; rintro e w1 ⟨rfl, hw⟩))
    all_goals (have HW := hide hw; clear hw; go_wp2_with fail; go_meet; case rel => exact HW)
  case rest =>
    have H1 := hcut
    clear hcut H0
    go_wp2_with fail
    refine (D1.out _ H1.out).mono ?_
    rintro e wc2 ⟨rfl, hw⟩
    have H2 := hide hw
    clear hw H1
    go_wp2_with fail
    refine (D2.out _ H2.out).mono ?_
    rintro e wc3 ⟨rfl, hw⟩
    have H3 := hide hw
    clear hw H2
    go_wp2_with fail
    refine bodyPost_end (results_none rfl _ _ _) rfl ?_
    exact ⟨rfl, H3.out⟩
end Go.Proofs.YthklpkmdmkgjiaaGreat

namespace Go.Proofs.YthklpkmdmkgjiaaGreat
open Go.ChangeShapes Go.WideShapes Go.ChangeAt Go.RowKit
set_option linter.unusedVariables false

set_option maxRecDepth 100000 in
set_option maxHeartbeats 4000000 in
theorem doc_account {W M o : Nat} {R0 R1 R2 R3 R4 R5 : World → Prop}
    (C0 : ∀ w, R0 w → Calls Tryz.prog 46 #[.pointer (some ⟨W, 0, none⟩), .pointer (some ⟨M, o, none⟩)] w fun e w' => e = .returned (.tuple #[]) ∧ R1 w')
    (C1 : ∀ w, R1 w → Calls Tryz.prog 85 #[.pointer (some ⟨W, 0, none⟩), .pointer (some ⟨M, o + 1, none⟩)] w fun e w' => e = .returned (.tuple #[]) ∧ R2 w')
    (C2 : ∀ w, R2 w → Calls Tryz.prog 44 #[.pointer (some ⟨W, 0, none⟩), .slice (some ⟨w.heap.size, 0, none⟩) 2 2] (w.alloc (.cells #[.pointer (some ⟨M, o + 3, none⟩), .pointer (some ⟨M, o + 4, none⟩)] 82)).drew fun e w' => e = .returned (.tuple #[]) ∧ R3 w')
    (C3 : ∀ w, R3 w → Calls Tryz.prog 86 #[.pointer (some ⟨W, 0, none⟩), .pointer (some ⟨M, o + 5, none⟩)] w fun e w' => e = .returned (.tuple #[]) ∧ R4 w')
    (C4 : ∀ w, R4 w → Calls Tryz.prog 87 #[.pointer (some ⟨W, 0, none⟩), .pointer (some ⟨M, o + 6, none⟩)] w fun e w' => e = .returned (.tuple #[]) ∧ R5 w')
    (w : World) (h : R0 w) :
    Calls Tryz.prog 70 #[.pointer (some ⟨W, 0, none⟩), .pointer (some ⟨M, o, none⟩)] w fun e w' => e = .returned (.tuple #[]) ∧ R5 w' := by
  have D0 := hide C0
  have D1 := hide C1
  have D2 := hide C2
  have D3 := hide C3
  have D4 := hide C4
  have H0 := hide h
  clear h C0 C1 C2 C3 C4
  go_enter Tryz.func70, Tryz.ntmps70
  go_wp2_with fail
  refine (D0.out _ H0.out).mono ?_
  rintro e wc1 ⟨rfl, hw⟩
  have H1 := hide hw
  clear hw H0
  go_wp2_with fail
  refine (D1.out _ H1.out).mono ?_
  rintro e wc2 ⟨rfl, hw⟩
  have H2 := hide hw
  clear hw H1
  go_wp2_with fail
  go_cut [] (fun w2 => Hid (R3 w2))
  case first =>
    go_region_held3 (fun _ => True) (exact True.intro) ((go_at_call 44; refine (D2.out _ H2.out).mono ?_; rintro e w1 ⟨rfl, hw⟩))
    all_goals (have HW := hide hw; clear hw; go_wp2_with fail; go_meet; case rel => exact HW)
  case rest =>
    have H3 := hcut
    clear hcut H2
    go_wp2_with fail
    refine (D3.out _ H3.out).mono ?_
    rintro e wc4 ⟨rfl, hw⟩
    have H4 := hide hw
    clear hw H3
    go_wp2_with fail
    refine (D4.out _ H4.out).mono ?_
    rintro e wc5 ⟨rfl, hw⟩
    have H5 := hide hw
    clear hw H4
    go_wp2_with fail
    refine bodyPost_end (results_none rfl _ _ _) rfl ?_
    exact ⟨rfl, H5.out⟩
end Go.Proofs.YthklpkmdmkgjiaaGreat

namespace Go.Proofs.YthklpkmdmkgjiaaGreat
open Go.ChangeShapes Go.WideShapes Go.ChangeAt Go.RowKit
set_option linter.unusedVariables false

set_option maxRecDepth 100000 in
set_option maxHeartbeats 4000000 in
theorem doc_State {W M o : Nat} {R0 R1 R2 R3 R4 R5 R6 R7 R8 R9 R10 R11 R12 R13 R14 : World → Prop}
    (C0 : ∀ w, R0 w → Calls Tryz.prog 44 #[.pointer (some ⟨W, 0, none⟩), .slice (some ⟨w.heap.size, 0, none⟩) 2 2] (w.alloc (.cells #[.pointer (some ⟨M, o, none⟩), .pointer (some ⟨M, o + 1, none⟩)] 82)).drew fun e w' => e = .returned (.tuple #[]) ∧ R1 w')
    (C1 : ∀ w, R1 w → Calls Tryz.prog 45 #[.pointer (some ⟨W, 0, none⟩), .pointer (some ⟨M, o + 2, none⟩)] w fun e w' => e = .returned (.tuple #[]) ∧ R2 w')
    (C2 : ∀ w, R2 w → Calls Tryz.prog 46 #[.pointer (some ⟨W, 0, none⟩), .pointer (some ⟨M, o + 3, none⟩)] w fun e w' => e = .returned (.tuple #[]) ∧ R3 w')
    (C3 : ∀ w, R3 w → Calls Tryz.prog 46 #[.pointer (some ⟨W, 0, none⟩), .pointer (some ⟨M, o + 4, none⟩)] w fun e w' => e = .returned (.tuple #[]) ∧ R4 w')
    (C4 : ∀ w, R4 w → Calls Tryz.prog 47 #[.pointer (some ⟨W, 0, none⟩), .pointer (some ⟨M, o + 5, none⟩)] w fun e w' => e = .returned (.tuple #[]) ∧ R5 w')
    (C5 : ∀ w, R5 w → Calls Tryz.prog 48 #[.pointer (some ⟨W, 0, none⟩), .pointer (some ⟨M, o + 6, none⟩)] w fun e w' => e = .returned (.tuple #[]) ∧ R6 w')
    (C6 : ∀ w, R6 w → Calls Tryz.prog 49 #[.pointer (some ⟨W, 0, none⟩), .pointer (some ⟨M, o + 7, none⟩)] w fun e w' => e = .returned (.tuple #[]) ∧ R7 w')
    (C7 : ∀ w, R7 w → Calls Tryz.prog 50 #[.pointer (some ⟨W, 0, none⟩), .pointer (some ⟨M, o + 8, none⟩)] w fun e w' => e = .returned (.tuple #[]) ∧ R8 w')
    (C8 : ∀ w, R8 w → Calls Tryz.prog 51 #[.pointer (some ⟨W, 0, none⟩), .pointer (some ⟨M, o + 9, none⟩)] w fun e w' => e = .returned (.tuple #[]) ∧ R9 w')
    (C9 : ∀ w, R9 w → Calls Tryz.prog 52 #[.pointer (some ⟨W, 0, none⟩), .pointer (some ⟨M, o + 10, none⟩)] w fun e w' => e = .returned (.tuple #[]) ∧ R10 w')
    (C10 : ∀ w, R10 w → Calls Tryz.prog 53 #[.pointer (some ⟨W, 0, none⟩), .pointer (some ⟨M, o + 11, none⟩)] w fun e w' => e = .returned (.tuple #[]) ∧ R11 w')
    (C11 : ∀ w, R11 w → Calls Tryz.prog 53 #[.pointer (some ⟨W, 0, none⟩), .pointer (some ⟨M, o + 18, none⟩)] w fun e w' => e = .returned (.tuple #[]) ∧ R12 w')
    (C12 : ∀ w, R12 w → Calls Tryz.prog 54 #[.pointer (some ⟨W, 0, none⟩), .pointer (some ⟨M, o + 25, none⟩)] w fun e w' => e = .returned (.tuple #[]) ∧ R13 w')
    (C13 : ∀ w, R13 w → Calls Tryz.prog 44 #[.pointer (some ⟨W, 0, none⟩), .slice (some ⟨w.heap.size, 0, none⟩) 3 3] (w.alloc (.cells #[.pointer (some ⟨M, o + 26, none⟩), .pointer (some ⟨M, o + 27, none⟩), .pointer (some ⟨M, o + 28, none⟩)] 82)).drew fun e w' => e = .returned (.tuple #[]) ∧ R14 w')
    (w : World) (h : R0 w) :
    Calls Tryz.prog 15 #[.pointer (some ⟨W, 0, none⟩), .pointer (some ⟨M, o, none⟩)] w fun e w' => e = .returned (.tuple #[]) ∧ R14 w' := by
  have D0 := hide C0
  have D1 := hide C1
  have D2 := hide C2
  have D3 := hide C3
  have D4 := hide C4
  have D5 := hide C5
  have D6 := hide C6
  have D7 := hide C7
  have D8 := hide C8
  have D9 := hide C9
  have D10 := hide C10
  have D11 := hide C11
  have D12 := hide C12
  have D13 := hide C13
  have H0 := hide h
  clear h C0 C1 C2 C3 C4 C5 C6 C7 C8 C9 C10 C11 C12 C13
  go_enter Tryz.func15, Tryz.ntmps15
  go_wp2_with fail
  go_cut [] (fun w2 => Hid (R1 w2))
  case first =>
    go_region_held3 (fun _ => True) (exact True.intro) ((go_at_call 44; refine (D0.out _ H0.out).mono ?_; rintro e w1 ⟨rfl, hw⟩))
    all_goals (have HW := hide hw; clear hw; go_wp2_with fail; go_meet; case rel => exact HW)
  case rest =>
    have H1 := hcut
    clear hcut H0
    go_wp2_with fail
    refine (D1.out _ H1.out).mono ?_
    rintro e wc2 ⟨rfl, hw⟩
    have H2 := hide hw
    clear hw H1
    go_wp2_with fail
    refine (D2.out _ H2.out).mono ?_
    rintro e wc3 ⟨rfl, hw⟩
    have H3 := hide hw
    clear hw H2
    go_wp2_with fail
    refine (D3.out _ H3.out).mono ?_
    rintro e wc4 ⟨rfl, hw⟩
    have H4 := hide hw
    clear hw H3
    go_wp2_with fail
    refine (D4.out _ H4.out).mono ?_
    rintro e wc5 ⟨rfl, hw⟩
    have H5 := hide hw
    clear hw H4
    go_wp2_with fail
    refine (D5.out _ H5.out).mono ?_
    rintro e wc6 ⟨rfl, hw⟩
    have H6 := hide hw
    clear hw H5
    go_wp2_with fail
    refine (D6.out _ H6.out).mono ?_
    rintro e wc7 ⟨rfl, hw⟩
    have H7 := hide hw
    clear hw H6
    go_wp2_with fail
    refine (D7.out _ H7.out).mono ?_
    rintro e wc8 ⟨rfl, hw⟩
    have H8 := hide hw
    clear hw H7
    go_wp2_with fail
    refine (D8.out _ H8.out).mono ?_
    rintro e wc9 ⟨rfl, hw⟩
    have H9 := hide hw
    clear hw H8
    go_wp2_with fail
    refine (D9.out _ H9.out).mono ?_
    rintro e wc10 ⟨rfl, hw⟩
    have H10 := hide hw
    clear hw H9
    go_wp2_with fail
    refine (D10.out _ H10.out).mono ?_
    rintro e wc11 ⟨rfl, hw⟩
    have H11 := hide hw
    clear hw H10
    go_wp2_with fail
    refine (D11.out _ H11.out).mono ?_
    rintro e wc12 ⟨rfl, hw⟩
    have H12 := hide hw
    clear hw H11
    go_wp2_with fail
    refine (D12.out _ H12.out).mono ?_
    rintro e wc13 ⟨rfl, hw⟩
    have H13 := hide hw
    clear hw H12
    go_wp2_with fail
    go_region_held3 (fun _ => True) (exact True.intro) ((go_at_call 44; refine (D13.out _ H13.out).mono ?_; rintro e w1 ⟨rfl, hw⟩))
    all_goals (have HW := hide hw; clear hw; go_wp2_with fail; refine bodyPost_end (results_none rfl _ _ _) rfl ?_; exact ⟨rfl, HW.out⟩)
end Go.Proofs.YthklpkmdmkgjiaaGreat
