/- The walk of the document's function op over a thing, whichever way it goes. No condition. The walk of the document's function plan over a thing, whichever way it goes. No condition. The walk of the document's function ballot over a thing, whichever way it goes. No condition. The walk of the document's function vote over a thing, whichever way it goes. No condition. The walk of the document's function entry over a thing, whichever way it goes. No condition. The walk of the document's function right over a thing, whichever way it goes. No condition. The walk of the document's function place over a thing, whichever way it goes. No condition. The walk of the document's function Command over a thing, whichever way it goes. No condition. The walk of the document's function Note over a thing, whichever way it goes. No condition. -/
import Derived.Test.YtfdejkfbjmkngaaJA
import Derived.Deep.RegionHeld3
import Derived.Deep.DeepCutAuto
namespace Go.Proofs.Ytfdejkfbjmkngaa
open Go.ChangeShapes Go.WideShapes Go.ChangeAt Go.RowKit
set_option linter.unusedVariables false

set_option maxRecDepth 100000 in
set_option maxHeartbeats 4000000 in
theorem doc_op {W M o : Nat} {R0 R1 R2 R3 R4 : World → Prop}
    (C0 : ∀ w, R0 w → Calls Try.prog 81 #[.pointer (some ⟨W, 0, none⟩), .pointer (some ⟨M, o, none⟩)] w fun e w' => e = .returned (.tuple #[]) ∧ R1 w')
    (C1 : ∀ w, R1 w → Calls Try.prog 59 #[.pointer (some ⟨W, 0, none⟩), .pointer (some ⟨M, o + 1, none⟩)] w fun e w' => e = .returned (.tuple #[]) ∧ R2 w')
    (C2 : ∀ w, R2 w → Calls Try.prog 59 #[.pointer (some ⟨W, 0, none⟩), .pointer (some ⟨M, o + 2, none⟩)] w fun e w' => e = .returned (.tuple #[]) ∧ R3 w')
    (C3 : ∀ w, R3 w → Calls Try.prog 58 #[.pointer (some ⟨W, 0, none⟩), .slice (some ⟨w.heap.size, 0, none⟩) 3 3] (w.alloc (.cells #[.pointer (some ⟨M, o + 3, none⟩), .pointer (some ⟨M, o + 4, none⟩), .pointer (some ⟨M, o + 5, none⟩)] 124)).drew fun e w' => e = .returned (.tuple #[]) ∧ R4 w')
    (w : World) (h : R0 w) :
    Calls Try.prog 61 #[.pointer (some ⟨W, 0, none⟩), .pointer (some ⟨M, o, none⟩)] w fun e w' => e = .returned (.tuple #[]) ∧ R4 w' := by
  have D0 := hide C0
  have D1 := hide C1
  have D2 := hide C2
  have D3 := hide C3
  have H0 := hide h
  clear h C0 C1 C2 C3
  go_enter Try.func61, Try.ntmps61
  go_wp2_with fail
  refine (D0.out _ H0.out).mono ?_
  rintro e wc1 ⟨rfl, hw⟩
  have H1 := hide hw
  clear hw H0
  go_wp2_with fail
  refine (D1.out _ H1.out).mono ?_
  rintro e wc2 ⟨rfl, hw⟩
  have H2 := hide hw
  clear hw H1
  go_wp2_with fail
  refine (D2.out _ H2.out).mono ?_
  rintro e wc3 ⟨rfl, hw⟩
  have H3 := hide hw
  clear hw H2
  go_wp2_with fail
  go_region_held3 (fun _ => True) (exact True.intro) ((go_at_call 58; refine (D3.out _ H3.out).mono ?_; rintro e w1 ⟨rfl, hw⟩))
  all_goals (have HW := hide hw; clear hw; go_wp2_with fail; refine bodyPost_end (results_none rfl _ _ _) rfl ?_; exact ⟨rfl, HW.out⟩)
end Go.Proofs.Ytfdejkfbjmkngaa

namespace Go.Proofs.Ytfdejkfbjmkngaa
open Go.ChangeShapes Go.WideShapes Go.ChangeAt Go.RowKit
set_option linter.unusedVariables false

set_option maxRecDepth 100000 in
set_option maxHeartbeats 4000000 in
theorem doc_plan {W M o : Nat} {R0 R1 R2 R3 R4 : World → Prop}
    (C0 : ∀ w, R0 w → Calls Try.prog 58 #[.pointer (some ⟨W, 0, none⟩), .slice (some ⟨w.heap.size, 0, none⟩) 3 3] (w.alloc (.cells #[.pointer (some ⟨M, o, none⟩), .pointer (some ⟨M, o + 1, none⟩), .pointer (some ⟨M, o + 2, none⟩)] 124)).drew fun e w' => e = .returned (.tuple #[]) ∧ R1 w')
    (C1 : ∀ w, R1 w → Calls Try.prog 59 #[.pointer (some ⟨W, 0, none⟩), .pointer (some ⟨M, o + 3, none⟩)] w fun e w' => e = .returned (.tuple #[]) ∧ R2 w')
    (C2 : ∀ w, R2 w → Calls Try.prog 59 #[.pointer (some ⟨W, 0, none⟩), .pointer (some ⟨M, o + 4, none⟩)] w fun e w' => e = .returned (.tuple #[]) ∧ R3 w')
    (C3 : ∀ w, R3 w → Calls Try.prog 58 #[.pointer (some ⟨W, 0, none⟩), .slice (some ⟨w.heap.size, 0, none⟩) 2 2] (w.alloc (.cells #[.pointer (some ⟨M, o + 5, none⟩), .pointer (some ⟨M, o + 6, none⟩)] 124)).drew fun e w' => e = .returned (.tuple #[]) ∧ R4 w')
    (w : World) (h : R0 w) :
    Calls Try.prog 62 #[.pointer (some ⟨W, 0, none⟩), .pointer (some ⟨M, o, none⟩)] w fun e w' => e = .returned (.tuple #[]) ∧ R4 w' := by
  have D0 := hide C0
  have D1 := hide C1
  have D2 := hide C2
  have D3 := hide C3
  have H0 := hide h
  clear h C0 C1 C2 C3
  go_enter Try.func62, Try.ntmps62
  go_wp2_with fail
  go_cut [] (fun w2 => Hid (R1 w2))
  case first =>
    go_region_held3 (fun _ => True) (exact True.intro) ((go_at_call 58; refine (D0.out _ H0.out).mono ?_; rintro e w1 ⟨rfl, hw⟩))
    all_goals (have HW := hide hw; clear hw; go_wp2_with fail; go_meet; case rel => exact HW)
  case rest =>
    have H1 := hcut
    clear hcut H0
    go_wp2_with fail
    refine (D1.out _ H1.out).mono ?_
    rintro e wc2 ⟨rfl, hw⟩
    have H2 := hide hw
    clear hw H1
    go_wp2_with fail
    refine (D2.out _ H2.out).mono ?_
    rintro e wc3 ⟨rfl, hw⟩
    have H3 := hide hw
    clear hw H2
    go_wp2_with fail
    go_region_held3 (fun _ => True) (exact True.intro) ((go_at_call 58; refine (D3.out _ H3.out).mono ?_; rintro e w1 ⟨rfl, hw⟩))
    all_goals (have HW := hide hw; clear hw; go_wp2_with fail; refine bodyPost_end (results_none rfl _ _ _) rfl ?_; exact ⟨rfl, HW.out⟩)
end Go.Proofs.Ytfdejkfbjmkngaa

namespace Go.Proofs.Ytfdejkfbjmkngaa
open Go.ChangeShapes Go.WideShapes Go.ChangeAt Go.RowKit
set_option linter.unusedVariables false

set_option maxRecDepth 100000 in
set_option maxHeartbeats 4000000 in
theorem doc_ballot {W M o : Nat} {R0 R1 : World → Prop}
    (C0 : ∀ w, R0 w → Calls Try.prog 58 #[.pointer (some ⟨W, 0, none⟩), .slice (some ⟨w.heap.size, 0, none⟩) 2 2] (w.alloc (.cells #[.pointer (some ⟨M, o, none⟩), .pointer (some ⟨M, o + 1, none⟩)] 124)).drew fun e w' => e = .returned (.tuple #[]) ∧ R1 w')
    (w : World) (h : R0 w) :
    Calls Try.prog 71 #[.pointer (some ⟨W, 0, none⟩), .pointer (some ⟨M, o, none⟩)] w fun e w' => e = .returned (.tuple #[]) ∧ R1 w' := by
  have D0 := hide C0
  have H0 := hide h
  clear h C0
  go_enter Try.func71, Try.ntmps71
  go_wp2_with fail
  go_region_held3 (fun _ => True) (exact True.intro) ((go_at_call 58; refine (D0.out _ H0.out).mono ?_; rintro e w1 ⟨rfl, hw⟩))
  all_goals (have HW := hide hw; clear hw; go_wp2_with fail; refine bodyPost_end (results_none rfl _ _ _) rfl ?_; exact ⟨rfl, HW.out⟩)
end Go.Proofs.Ytfdejkfbjmkngaa

namespace Go.Proofs.Ytfdejkfbjmkngaa
open Go.ChangeShapes Go.WideShapes Go.ChangeAt Go.RowKit
set_option linter.unusedVariables false

set_option maxRecDepth 100000 in
set_option maxHeartbeats 4000000 in
theorem doc_vote {W M o : Nat} {R0 R1 R2 R3 : World → Prop}
    (C0 : ∀ w, R0 w → Calls Try.prog 81 #[.pointer (some ⟨W, 0, none⟩), .pointer (some ⟨M, o, none⟩)] w fun e w' => e = .returned (.tuple #[]) ∧ R1 w')
    (C1 : ∀ w, R1 w → Calls Try.prog 71 #[.pointer (some ⟨W, 0, none⟩), .pointer (some ⟨M, o + 1, none⟩)] w fun e w' => e = .returned (.tuple #[]) ∧ R2 w')
    (C2 : ∀ w, R2 w → Calls Try.prog 63 #[.pointer (some ⟨W, 0, none⟩), .pointer (some ⟨M, o + 3, none⟩)] w fun e w' => e = .returned (.tuple #[]) ∧ R3 w')
    (w : World) (h : R0 w) :
    Calls Try.prog 72 #[.pointer (some ⟨W, 0, none⟩), .pointer (some ⟨M, o, none⟩)] w fun e w' => e = .returned (.tuple #[]) ∧ R3 w' := by
  have D0 := hide C0
  have D1 := hide C1
  have D2 := hide C2
  have H0 := hide h
  clear h C0 C1 C2
  go_enter Try.func72, Try.ntmps72
  go_wp2_with fail
  refine (D0.out _ H0.out).mono ?_
  rintro e wc1 ⟨rfl, hw⟩
  have H1 := hide hw
  clear hw H0
  go_wp2_with fail
  refine (D1.out _ H1.out).mono ?_
  rintro e wc2 ⟨rfl, hw⟩
  have H2 := hide hw
  clear hw H1
  go_wp2_with fail
  refine (D2.out _ H2.out).mono ?_
  rintro e wc3 ⟨rfl, hw⟩
  have H3 := hide hw
  clear hw H2
  go_wp2_with fail
  refine bodyPost_end (results_none rfl _ _ _) rfl ?_
  exact ⟨rfl, H3.out⟩
end Go.Proofs.Ytfdejkfbjmkngaa

namespace Go.Proofs.Ytfdejkfbjmkngaa
open Go.ChangeShapes Go.WideShapes Go.ChangeAt Go.RowKit
set_option linter.unusedVariables false

set_option maxRecDepth 100000 in
set_option maxHeartbeats 4000000 in
theorem doc_entry {W M o : Nat} {R0 R1 R2 : World → Prop}
    (C0 : ∀ w, R0 w → Calls Try.prog 81 #[.pointer (some ⟨W, 0, none⟩), .pointer (some ⟨M, o, none⟩)] w fun e w' => e = .returned (.tuple #[]) ∧ R1 w')
    (C1 : ∀ w, R1 w → Calls Try.prog 63 #[.pointer (some ⟨W, 0, none⟩), .pointer (some ⟨M, o + 1, none⟩)] w fun e w' => e = .returned (.tuple #[]) ∧ R2 w')
    (w : World) (h : R0 w) :
    Calls Try.prog 73 #[.pointer (some ⟨W, 0, none⟩), .pointer (some ⟨M, o, none⟩)] w fun e w' => e = .returned (.tuple #[]) ∧ R2 w' := by
  have D0 := hide C0
  have D1 := hide C1
  have H0 := hide h
  clear h C0 C1
  go_enter Try.func73, Try.ntmps73
  go_wp2_with fail
  refine (D0.out _ H0.out).mono ?_
  rintro e wc1 ⟨rfl, hw⟩
  have H1 := hide hw
  clear hw H0
  go_wp2_with fail
  refine (D1.out _ H1.out).mono ?_
  rintro e wc2 ⟨rfl, hw⟩
  have H2 := hide hw
  clear hw H1
  go_wp2_with fail
  refine bodyPost_end (results_none rfl _ _ _) rfl ?_
  exact ⟨rfl, H2.out⟩
end Go.Proofs.Ytfdejkfbjmkngaa

namespace Go.Proofs.Ytfdejkfbjmkngaa
open Go.ChangeShapes Go.WideShapes Go.ChangeAt Go.RowKit
set_option linter.unusedVariables false

set_option maxRecDepth 100000 in
set_option maxHeartbeats 4000000 in
theorem doc_right {W M o : Nat} {R0 R1 R2 R3 : World → Prop}
    (C0 : ∀ w, R0 w → Calls Try.prog 81 #[.pointer (some ⟨W, 0, none⟩), .pointer (some ⟨M, o, none⟩)] w fun e w' => e = .returned (.tuple #[]) ∧ R1 w')
    (C1 : ∀ w, R1 w → Calls Try.prog 59 #[.pointer (some ⟨W, 0, none⟩), .pointer (some ⟨M, o + 1, none⟩)] w fun e w' => e = .returned (.tuple #[]) ∧ R2 w')
    (C2 : ∀ w, R2 w → Calls Try.prog 58 #[.pointer (some ⟨W, 0, none⟩), .slice (some ⟨w.heap.size, 0, none⟩) 2 2] (w.alloc (.cells #[.pointer (some ⟨M, o + 2, none⟩), .pointer (some ⟨M, o + 3, none⟩)] 124)).drew fun e w' => e = .returned (.tuple #[]) ∧ R3 w')
    (w : World) (h : R0 w) :
    Calls Try.prog 74 #[.pointer (some ⟨W, 0, none⟩), .pointer (some ⟨M, o, none⟩)] w fun e w' => e = .returned (.tuple #[]) ∧ R3 w' := by
  have D0 := hide C0
  have D1 := hide C1
  have D2 := hide C2
  have H0 := hide h
  clear h C0 C1 C2
  go_enter Try.func74, Try.ntmps74
  go_wp2_with fail
  refine (D0.out _ H0.out).mono ?_
  rintro e wc1 ⟨rfl, hw⟩
  have H1 := hide hw
  clear hw H0
  go_wp2_with fail
  refine (D1.out _ H1.out).mono ?_
  rintro e wc2 ⟨rfl, hw⟩
  have H2 := hide hw
  clear hw H1
  go_wp2_with fail
  go_region_held3 (fun _ => True) (exact True.intro) ((go_at_call 58; refine (D2.out _ H2.out).mono ?_; rintro e w1 ⟨rfl, hw⟩))
  all_goals (have HW := hide hw; clear hw; go_wp2_with fail; refine bodyPost_end (results_none rfl _ _ _) rfl ?_; exact ⟨rfl, HW.out⟩)
end Go.Proofs.Ytfdejkfbjmkngaa

namespace Go.Proofs.Ytfdejkfbjmkngaa
open Go.ChangeShapes Go.WideShapes Go.ChangeAt Go.RowKit
set_option linter.unusedVariables false

set_option maxRecDepth 100000 in
set_option maxHeartbeats 4000000 in
theorem doc_place {W M o : Nat} {R0 R1 R2 R3 : World → Prop}
    (C0 : ∀ w, R0 w → Calls Try.prog 81 #[.pointer (some ⟨W, 0, none⟩), .pointer (some ⟨M, o, none⟩)] w fun e w' => e = .returned (.tuple #[]) ∧ R1 w')
    (C1 : ∀ w, R1 w → Calls Try.prog 59 #[.pointer (some ⟨W, 0, none⟩), .pointer (some ⟨M, o + 1, none⟩)] w fun e w' => e = .returned (.tuple #[]) ∧ R2 w')
    (C2 : ∀ w, R2 w → Calls Try.prog 81 #[.pointer (some ⟨W, 0, none⟩), .pointer (some ⟨M, o + 2, none⟩)] w fun e w' => e = .returned (.tuple #[]) ∧ R3 w')
    (w : World) (h : R0 w) :
    Calls Try.prog 96 #[.pointer (some ⟨W, 0, none⟩), .pointer (some ⟨M, o, none⟩)] w fun e w' => e = .returned (.tuple #[]) ∧ R3 w' := by
  have D0 := hide C0
  have D1 := hide C1
  have D2 := hide C2
  have H0 := hide h
  clear h C0 C1 C2
  go_enter Try.func96, Try.ntmps96
  go_wp2_with fail
  refine (D0.out _ H0.out).mono ?_
  rintro e wc1 ⟨rfl, hw⟩
  have H1 := hide hw
  clear hw H0
  go_wp2_with fail
  refine (D1.out _ H1.out).mono ?_
  rintro e wc2 ⟨rfl, hw⟩
  have H2 := hide hw
  clear hw H1
  go_wp2_with fail
  refine (D2.out _ H2.out).mono ?_
  rintro e wc3 ⟨rfl, hw⟩
  have H3 := hide hw
  clear hw H2
  go_wp2_with fail
  refine bodyPost_end (results_none rfl _ _ _) rfl ?_
  exact ⟨rfl, H3.out⟩
end Go.Proofs.Ytfdejkfbjmkngaa

namespace Go.Proofs.Ytfdejkfbjmkngaa
open Go.ChangeShapes Go.WideShapes Go.ChangeAt Go.RowKit
set_option linter.unusedVariables false

set_option maxRecDepth 100000 in
set_option maxHeartbeats 4000000 in
theorem doc_Command {W M o : Nat} {R0 R1 R2 R3 R4 R5 R6 R7 : World → Prop}
    (C0 : ∀ w, R0 w → Calls Try.prog 58 #[.pointer (some ⟨W, 0, none⟩), .slice (some ⟨w.heap.size, 0, none⟩) 6 6] (w.alloc (.cells #[.pointer (some ⟨M, o, none⟩), .pointer (some ⟨M, o + 1, none⟩), .pointer (some ⟨M, o + 2, none⟩), .pointer (some ⟨M, o + 3, none⟩), .pointer (some ⟨M, o + 4, none⟩), .pointer (some ⟨M, o + 5, none⟩)] 124)).drew fun e w' => e = .returned (.tuple #[]) ∧ R1 w')
    (C1 : ∀ w, R1 w → Calls Try.prog 59 #[.pointer (some ⟨W, 0, none⟩), .pointer (some ⟨M, o + 6, none⟩)] w fun e w' => e = .returned (.tuple #[]) ∧ R2 w')
    (C2 : ∀ w, R2 w → Calls Try.prog 58 #[.pointer (some ⟨W, 0, none⟩), .slice (some ⟨w.heap.size, 0, none⟩) 3 3] (w.alloc (.cells #[.pointer (some ⟨M, o + 7, none⟩), .pointer (some ⟨M, o + 8, none⟩), .pointer (some ⟨M, o + 9, none⟩)] 124)).drew fun e w' => e = .returned (.tuple #[]) ∧ R3 w')
    (C3 : ∀ w, R3 w → Calls Try.prog 60 #[.pointer (some ⟨W, 0, none⟩), .pointer (some ⟨M, o + 10, none⟩)] w fun e w' => e = .returned (.tuple #[]) ∧ R4 w')
    (C4 : ∀ w, R4 w → Calls Try.prog 61 #[.pointer (some ⟨W, 0, none⟩), .pointer (some ⟨M, o + 11, none⟩)] w fun e w' => e = .returned (.tuple #[]) ∧ R5 w')
    (C5 : ∀ w, R5 w → Calls Try.prog 62 #[.pointer (some ⟨W, 0, none⟩), .pointer (some ⟨M, o + 17, none⟩)] w fun e w' => e = .returned (.tuple #[]) ∧ R6 w')
    (C6 : ∀ w, R6 w → Calls Try.prog 63 #[.pointer (some ⟨W, 0, none⟩), .pointer (some ⟨M, o + 24, none⟩)] w fun e w' => e = .returned (.tuple #[]) ∧ R7 w')
    (w : World) (h : R0 w) :
    Calls Try.prog 31 #[.pointer (some ⟨W, 0, none⟩), .pointer (some ⟨M, o, none⟩)] w fun e w' => e = .returned (.tuple #[]) ∧ R7 w' := by
  have D0 := hide C0
  have D1 := hide C1
  have D2 := hide C2
  have D3 := hide C3
  have D4 := hide C4
  have D5 := hide C5
  have D6 := hide C6
  have H0 := hide h
  clear h C0 C1 C2 C3 C4 C5 C6
  go_enter Try.func31, Try.ntmps31
  go_wp2_with fail
  go_cut [] (fun w2 => Hid (R1 w2))
  case first =>
    go_region_held3 (fun _ => True) (exact True.intro) ((go_at_call 58; refine (D0.out _ H0.out).mono ?_; rintro e w1 ⟨rfl, hw⟩))
    all_goals (have HW := hide hw; clear hw; go_wp2_with fail; go_meet; case rel => exact HW)
  case rest =>
    have H1 := hcut
    clear hcut H0
    go_wp2_with fail
    refine (D1.out _ H1.out).mono ?_
    rintro e wc2 ⟨rfl, hw⟩
    have H2 := hide hw
    clear hw H1
    go_wp2_with fail
    go_cut [] (fun w2 => Hid (R3 w2))
    case first =>
      go_region_held3 (fun _ => True) (exact True.intro) ((go_at_call 58; refine (D2.out _ H2.out).mono ?_; rintro e w1 ⟨rfl, hw⟩))
      all_goals (have HW := hide hw; clear hw; go_wp2_with fail; go_meet; case rel => exact HW)
    case rest =>
      have H3 := hcut
      clear hcut H2
      go_wp2_with fail
      refine (D3.out _ H3.out).mono ?_
      rintro e wc4 ⟨rfl, hw⟩
      have H4 := hide hw
      clear hw H3
      go_wp2_with fail
      refine (D4.out _ H4.out).mono ?_
      rintro e wc5 ⟨rfl, hw⟩
      have H5 := hide hw
      clear hw H4
      go_wp2_with fail
      refine (D5.out _ H5.out).mono ?_
      rintro e wc6 ⟨rfl, hw⟩
      have H6 := hide hw
      clear hw H5
      go_wp2_with fail
      refine (D6.out _ H6.out).mono ?_
      rintro e wc7 ⟨rfl, hw⟩
      have H7 := hide hw
      clear hw H6
      go_wp2_with fail
      refine bodyPost_end (results_none rfl _ _ _) rfl ?_
      exact ⟨rfl, H7.out⟩
end Go.Proofs.Ytfdejkfbjmkngaa

namespace Go.Proofs.Ytfdejkfbjmkngaa
open Go.ChangeShapes Go.WideShapes Go.ChangeAt Go.RowKit
set_option linter.unusedVariables false

set_option maxRecDepth 100000 in
set_option maxHeartbeats 4000000 in
theorem doc_Note {W M o : Nat} {R0 R1 R2 R3 R4 R5 R6 : World → Prop}
    (C0 : ∀ w, R0 w → Calls Try.prog 58 #[.pointer (some ⟨W, 0, none⟩), .slice (some ⟨w.heap.size, 0, none⟩) 2 2] (w.alloc (.cells #[.pointer (some ⟨M, o, none⟩), .pointer (some ⟨M, o + 1, none⟩)] 124)).drew fun e w' => e = .returned (.tuple #[]) ∧ R1 w')
    (C1 : ∀ w, R1 w → Calls Try.prog 71 #[.pointer (some ⟨W, 0, none⟩), .pointer (some ⟨M, o + 2, none⟩)] w fun e w' => e = .returned (.tuple #[]) ∧ R2 w')
    (C2 : ∀ w, R2 w → Calls Try.prog 72 #[.pointer (some ⟨W, 0, none⟩), .pointer (some ⟨M, o + 4, none⟩)] w fun e w' => e = .returned (.tuple #[]) ∧ R3 w')
    (C3 : ∀ w, R3 w → Calls Try.prog 73 #[.pointer (some ⟨W, 0, none⟩), .pointer (some ⟨M, o + 8, none⟩)] w fun e w' => e = .returned (.tuple #[]) ∧ R4 w')
    (C4 : ∀ w, R4 w → Calls Try.prog 74 #[.pointer (some ⟨W, 0, none⟩), .pointer (some ⟨M, o + 10, none⟩)] w fun e w' => e = .returned (.tuple #[]) ∧ R5 w')
    (C5 : ∀ w, R5 w → Calls Try.prog 58 #[.pointer (some ⟨W, 0, none⟩), .slice (some ⟨w.heap.size, 0, none⟩) 2 2] (w.alloc (.cells #[.pointer (some ⟨M, o + 14, none⟩), .pointer (some ⟨M, o + 15, none⟩)] 124)).drew fun e w' => e = .returned (.tuple #[]) ∧ R6 w')
    (w : World) (h : R0 w) :
    Calls Try.prog 39 #[.pointer (some ⟨W, 0, none⟩), .pointer (some ⟨M, o, none⟩)] w fun e w' => e = .returned (.tuple #[]) ∧ R6 w' := by
  have D0 := hide C0
  have D1 := hide C1
  have D2 := hide C2
  have D3 := hide C3
  have D4 := hide C4
  have D5 := hide C5
  have H0 := hide h
  clear h C0 C1 C2 C3 C4 C5
  go_enter Try.func39, Try.ntmps39
  go_wp2_with fail
  go_cut [] (fun w2 => Hid (R1 w2))
  case first =>
    go_region_held3 (fun _ => True) (exact True.intro) ((go_at_call 58; refine (D0.out _ H0.out).mono ?_; rintro e w1 ⟨rfl, hw⟩))
    all_goals (have HW := hide hw; clear hw; go_wp2_with fail; go_meet; case rel => exact HW)
  case rest =>
    have H1 := hcut
    clear hcut H0
    go_wp2_with fail
    refine (D1.out _ H1.out).mono ?_
    rintro e wc2 ⟨rfl, hw⟩
    have H2 := hide hw
    clear hw H1
    go_wp2_with fail
    refine (D2.out _ H2.out).mono ?_
    rintro e wc3 ⟨rfl, hw⟩
    have H3 := hide hw
    clear hw H2
    go_wp2_with fail
    refine (D3.out _ H3.out).mono ?_
    rintro e wc4 ⟨rfl, hw⟩
    have H4 := hide hw
    clear hw H3
    go_wp2_with fail
    refine (D4.out _ H4.out).mono ?_
    rintro e wc5 ⟨rfl, hw⟩
    have H5 := hide hw
    clear hw H4
    go_wp2_with fail
    go_region_held3 (fun _ => True) (exact True.intro) ((go_at_call 58; refine (D5.out _ H5.out).mono ?_; rintro e w1 ⟨rfl, hw⟩))
    all_goals (have HW := hide hw; clear hw; go_wp2_with fail; refine bodyPost_end (results_none rfl _ _ _) rfl ?_; exact ⟨rfl, HW.out⟩)
end Go.Proofs.Ytfdejkfbjmkngaa
