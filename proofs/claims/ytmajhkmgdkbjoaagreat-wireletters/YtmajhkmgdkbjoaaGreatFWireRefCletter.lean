/- The walk of the document's function Letter over a thing, whichever way it goes. No condition. -/
import Derived.Test.YtmajhkmgdkbjoaaGreatJA
import Derived.Deep.RegionHeld3
import Derived.Deep.DeepCutAuto
namespace Go.Proofs.YtmajhkmgdkbjoaaGreat
open Go.ChangeShapes Go.WideShapes Go.ChangeAt Go.RowKit
set_option linter.unusedVariables false

set_option maxRecDepth 100000 in
set_option maxHeartbeats 4000000 in
theorem doc_Letter {W M o : Nat} {R0 R1 R2 R3 R4 R5 R6 : World → Prop}
    (C0 : ∀ w, R0 w → Calls Tryz.prog 25 #[.pointer (some ⟨W, 0, none⟩), .slice (some ⟨w.heap.size, 0, none⟩) 4 4] (w.alloc (.cells #[.pointer (some ⟨M, o, none⟩), .pointer (some ⟨M, o + 1, none⟩), .pointer (some ⟨M, o + 2, none⟩), .pointer (some ⟨M, o + 3, none⟩)] 79)).drew fun e w' => e = .returned (.tuple #[]) ∧ R1 w')
    (C1 : ∀ w, R1 w → Calls Tryz.prog 26 #[.pointer (some ⟨W, 0, none⟩), .pointer (some ⟨M, o + 4, none⟩)] w fun e w' => e = .returned (.tuple #[]) ∧ R2 w')
    (C2 : ∀ w, R2 w → Calls Tryz.prog 25 #[.pointer (some ⟨W, 0, none⟩), .slice (some ⟨w.heap.size, 0, none⟩) 2 2] (w.alloc (.cells #[.pointer (some ⟨M, o + 6, none⟩), .pointer (some ⟨M, o + 7, none⟩)] 79)).drew fun e w' => e = .returned (.tuple #[]) ∧ R3 w')
    (C3 : ∀ w, R3 w → Calls Tryz.prog 27 #[.pointer (some ⟨W, 0, none⟩), .pointer (some ⟨M, o + 8, none⟩)] w fun e w' => e = .returned (.tuple #[]) ∧ R4 w')
    (C4 : ∀ w, R4 w → Calls Tryz.prog 28 #[.pointer (some ⟨W, 0, none⟩), .pointer (some ⟨M, o + 9, none⟩)] w fun e w' => e = .returned (.tuple #[]) ∧ R5 w')
    (C5 : ∀ w, R5 w → Calls Tryz.prog 29 #[.pointer (some ⟨W, 0, none⟩), .pointer (some ⟨M, o + 10, none⟩)] w fun e w' => e = .returned (.tuple #[]) ∧ R6 w')
    (w : World) (h : R0 w) :
    Calls Tryz.prog 13 #[.pointer (some ⟨W, 0, none⟩), .pointer (some ⟨M, o, none⟩)] w fun e w' => e = .returned (.tuple #[]) ∧ R6 w' := by
  have D0 := hide C0
  have D1 := hide C1
  have D2 := hide C2
  have D3 := hide C3
  have D4 := hide C4
  have D5 := hide C5
  have H0 := hide h
  clear h C0 C1 C2 C3 C4 C5
  go_enter Tryz.func13, Tryz.ntmps13
  go_wp2_with fail
  go_cut [] (fun w2 => Hid (R1 w2))
  case first =>
    go_region_held3 (fun _ => True) (exact True.intro) ((go_at_call 25; refine (D0.out _ H0.out).mono ?_; rintro e w1 ⟨rfl, hw⟩))
    all_goals (have HW := hide hw; clear hw; go_wp2_with fail; go_meet; case rel => exact HW)
  case rest =>
    have H1 := hcut
    clear hcut H0
    go_wp2_with fail
    refine (D1.out _ H1.out).mono ?_
    rintro e wc2 ⟨rfl, hw⟩
    have H2 := hide hw
    clear hw H1
    go_wp2_with fail
    go_cut [] (fun w2 => Hid (R3 w2))
    case first =>
      go_region_held3 (fun _ => True) (exact True.intro) ((go_at_call 25; refine (D2.out _ H2.out).mono ?_; rintro e w1 ⟨rfl, hw⟩))
      all_goals (have HW := hide hw; clear hw; go_wp2_with fail; go_meet; case rel => exact HW)
    case rest =>
      have H3 := hcut
      clear hcut H2
      go_wp2_with fail
      refine (D3.out _ H3.out).mono ?_
      rintro e wc4 ⟨rfl, hw⟩
      have H4 := hide hw
      clear hw H3
      go_wp2_with fail
      refine (D4.out _ H4.out).mono ?_
      rintro e wc5 ⟨rfl, hw⟩
      have H5 := hide hw
      clear hw H4
      go_wp2_with fail
      refine (D5.out _ H5.out).mono ?_
      rintro e wc6 ⟨rfl, hw⟩
      have H6 := hide hw
      clear hw H5
      go_wp2_with fail
      refine bodyPost_end (results_none rfl _ _ _) rfl ?_
      exact ⟨rfl, H6.out⟩
end Go.Proofs.YtmajhkmgdkbjoaaGreat
