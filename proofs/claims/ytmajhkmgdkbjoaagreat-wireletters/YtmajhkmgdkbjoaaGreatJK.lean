/- The walk of the document's function ballot over a thing, whichever way it goes. No condition. The walk of the document's function vote over a thing, whichever way it goes. No condition. The walk of the document's function entry over a thing, whichever way it goes. No condition. The walk of the document's function piece over a thing, whichever way it goes. No condition. -/
import Derived.Test.YtmajhkmgdkbjoaaGreatJA
import Derived.Deep.RegionHeld3
import Derived.Deep.DeepCutAuto
namespace Go.Proofs.YtmajhkmgdkbjoaaGreat
open Go.ChangeShapes Go.WideShapes Go.ChangeAt Go.RowKit
set_option linter.unusedVariables false

set_option maxRecDepth 100000 in
set_option maxHeartbeats 4000000 in
theorem doc_ballot {W M o : Nat} {R0 R1 : World → Prop}
    (C0 : ∀ w, R0 w → Calls Tryz.prog 25 #[.pointer (some ⟨W, 0, none⟩), .slice (some ⟨w.heap.size, 0, none⟩) 2 2] (w.alloc (.cells #[.pointer (some ⟨M, o, none⟩), .pointer (some ⟨M, o + 1, none⟩)] 79)).drew fun e w' => e = .returned (.tuple #[]) ∧ R1 w')
    (w : World) (h : R0 w) :
    Calls Tryz.prog 26 #[.pointer (some ⟨W, 0, none⟩), .pointer (some ⟨M, o, none⟩)] w fun e w' => e = .returned (.tuple #[]) ∧ R1 w' := by
  have D0 := hide C0
  have H0 := hide h
  clear h C0
  go_enter Tryz.func26, Tryz.ntmps26
  go_wp2_with fail
  go_region_held3 (fun _ => True) (exact True.intro) ((go_at_call 25; refine (D0.out _ H0.out).mono ?_; rintro e w1 ⟨rfl, hw⟩))
  all_goals (have HW := hide hw; clear hw; go_wp2_with fail; refine bodyPost_end (results_none rfl _ _ _) rfl ?_; exact ⟨rfl, HW.out⟩)
end Go.Proofs.YtmajhkmgdkbjoaaGreat

namespace Go.Proofs.YtmajhkmgdkbjoaaGreat
open Go.ChangeShapes Go.WideShapes Go.ChangeAt Go.RowKit
set_option linter.unusedVariables false

set_option maxRecDepth 100000 in
set_option maxHeartbeats 4000000 in
theorem doc_vote {W M o : Nat} {R0 R1 R2 R3 : World → Prop}
    (C0 : ∀ w, R0 w → Calls Tryz.prog 47 #[.pointer (some ⟨W, 0, none⟩), .pointer (some ⟨M, o, none⟩)] w fun e w' => e = .returned (.tuple #[]) ∧ R1 w')
    (C1 : ∀ w, R1 w → Calls Tryz.prog 26 #[.pointer (some ⟨W, 0, none⟩), .pointer (some ⟨M, o + 1, none⟩)] w fun e w' => e = .returned (.tuple #[]) ∧ R2 w')
    (C2 : ∀ w, R2 w → Calls Tryz.prog 53 #[.pointer (some ⟨W, 0, none⟩), .pointer (some ⟨M, o + 3, none⟩)] w fun e w' => e = .returned (.tuple #[]) ∧ R3 w')
    (w : World) (h : R0 w) :
    Calls Tryz.prog 50 #[.pointer (some ⟨W, 0, none⟩), .pointer (some ⟨M, o, none⟩)] w fun e w' => e = .returned (.tuple #[]) ∧ R3 w' := by
  have D0 := hide C0
  have D1 := hide C1
  have D2 := hide C2
  have H0 := hide h
  clear h C0 C1 C2
  go_enter Tryz.func50, Tryz.ntmps50
  go_wp2_with fail
  refine (D0.out _ H0.out).mono ?_
  rintro e wc1 ⟨rfl, hw⟩
  have H1 := hide hw
  clear hw H0
  go_wp2_with fail
  refine (D1.out _ H1.out).mono ?_
  rintro e wc2 ⟨rfl, hw⟩
  have H2 := hide hw
  clear hw H1
  go_wp2_with fail
  refine (D2.out _ H2.out).mono ?_
  rintro e wc3 ⟨rfl, hw⟩
  have H3 := hide hw
  clear hw H2
  go_wp2_with fail
  refine bodyPost_end (results_none rfl _ _ _) rfl ?_
  exact ⟨rfl, H3.out⟩
end Go.Proofs.YtmajhkmgdkbjoaaGreat

namespace Go.Proofs.YtmajhkmgdkbjoaaGreat
open Go.ChangeShapes Go.WideShapes Go.ChangeAt Go.RowKit
set_option linter.unusedVariables false

set_option maxRecDepth 100000 in
set_option maxHeartbeats 4000000 in
theorem doc_entry {W M o : Nat} {R0 R1 R2 : World → Prop}
    (C0 : ∀ w, R0 w → Calls Tryz.prog 47 #[.pointer (some ⟨W, 0, none⟩), .pointer (some ⟨M, o, none⟩)] w fun e w' => e = .returned (.tuple #[]) ∧ R1 w')
    (C1 : ∀ w, R1 w → Calls Tryz.prog 53 #[.pointer (some ⟨W, 0, none⟩), .pointer (some ⟨M, o + 1, none⟩)] w fun e w' => e = .returned (.tuple #[]) ∧ R2 w')
    (w : World) (h : R0 w) :
    Calls Tryz.prog 51 #[.pointer (some ⟨W, 0, none⟩), .pointer (some ⟨M, o, none⟩)] w fun e w' => e = .returned (.tuple #[]) ∧ R2 w' := by
  have D0 := hide C0
  have D1 := hide C1
  have H0 := hide h
  clear h C0 C1
  go_enter Tryz.func51, Tryz.ntmps51
  go_wp2_with fail
  refine (D0.out _ H0.out).mono ?_
  rintro e wc1 ⟨rfl, hw⟩
  have H1 := hide hw
  clear hw H0
  go_wp2_with fail
  refine (D1.out _ H1.out).mono ?_
  rintro e wc2 ⟨rfl, hw⟩
  have H2 := hide hw
  clear hw H1
  go_wp2_with fail
  refine bodyPost_end (results_none rfl _ _ _) rfl ?_
  exact ⟨rfl, H2.out⟩
end Go.Proofs.YtmajhkmgdkbjoaaGreat

namespace Go.Proofs.YtmajhkmgdkbjoaaGreat
open Go.ChangeShapes Go.WideShapes Go.ChangeAt Go.RowKit
set_option linter.unusedVariables false

set_option maxRecDepth 100000 in
set_option maxHeartbeats 4000000 in
theorem doc_piece {W M o : Nat} {R0 R1 R2 R3 : World → Prop}
    (C0 : ∀ w, R0 w → Calls Tryz.prog 25 #[.pointer (some ⟨W, 0, none⟩), .slice (some ⟨w.heap.size, 0, none⟩) 2 2] (w.alloc (.cells #[.pointer (some ⟨M, o, none⟩), .pointer (some ⟨M, o + 1, none⟩)] 79)).drew fun e w' => e = .returned (.tuple #[]) ∧ R1 w')
    (C1 : ∀ w, R1 w → Calls Tryz.prog 52 #[.pointer (some ⟨W, 0, none⟩), .pointer (some ⟨M, o + 2, none⟩)] w fun e w' => e = .returned (.tuple #[]) ∧ R2 w')
    (C2 : ∀ w, R2 w → Calls Tryz.prog 53 #[.pointer (some ⟨W, 0, none⟩), .pointer (some ⟨M, o + 3, none⟩)] w fun e w' => e = .returned (.tuple #[]) ∧ R3 w')
    (w : World) (h : R0 w) :
    Calls Tryz.prog 29 #[.pointer (some ⟨W, 0, none⟩), .pointer (some ⟨M, o, none⟩)] w fun e w' => e = .returned (.tuple #[]) ∧ R3 w' := by
  have D0 := hide C0
  have D1 := hide C1
  have D2 := hide C2
  have H0 := hide h
  clear h C0 C1 C2
  go_enter Tryz.func29, Tryz.ntmps29
  go_wp2_with fail
  go_cut [] (fun w2 => Hid (R1 w2))
  case first =>
    go_region_held3 (fun _ => True) (exact True.intro) ((go_at_call 25; refine (D0.out _ H0.out).mono ?_; rintro e w1 ⟨rfl, hw⟩))
    all_goals (have HW := hide hw; clear hw; go_wp2_with fail; go_meet; case rel => exact HW)
  case rest =>
    have H1 := hcut
    clear hcut H0
    go_wp2_with fail
    refine (D1.out _ H1.out).mono ?_
    rintro e wc2 ⟨rfl, hw⟩
    have H2 := hide hw
    clear hw H1
    go_wp2_with fail
    refine (D2.out _ H2.out).mono ?_
    rintro e wc3 ⟨rfl, hw⟩
    have H3 := hide hw
    clear hw H2
    go_wp2_with fail
    refine bodyPost_end (results_none rfl _ _ _) rfl ?_
    exact ⟨rfl, H3.out⟩
end Go.Proofs.YtmajhkmgdkbjoaaGreat
