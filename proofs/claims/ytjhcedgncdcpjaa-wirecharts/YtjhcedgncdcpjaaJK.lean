/- The walk of the document's function plan over a thing, whichever way it goes. No condition. The walk of the document's function place over a thing, whichever way it goes. No condition. The walk of the document's function mark over a thing, whichever way it goes. No condition. -/
import Derived.Test.YtjhcedgncdcpjaaJA
import Derived.Deep.RegionHeld3
import Derived.Deep.DeepCutAuto
namespace Go.Proofs.Ytjhcedgncdcpjaa
open Go.ChangeShapes Go.WideShapes Go.ChangeAt Go.RowKit
set_option linter.unusedVariables false

set_option maxRecDepth 100000 in
set_option maxHeartbeats 4000000 in
theorem doc_plan {W M o : Nat} {R0 R1 R2 R3 R4 : World → Prop}
    (C0 : ∀ w, R0 w → Calls Try.prog 33 #[.pointer (some ⟨W, 0, none⟩), .slice (some ⟨w.heap.size, 0, none⟩) 3 3] (w.alloc (.cells #[.pointer (some ⟨M, o, none⟩), .pointer (some ⟨M, o + 1, none⟩), .pointer (some ⟨M, o + 2, none⟩)] 71)).drew fun e w' => e = .returned (.tuple #[]) ∧ R1 w')
    (C1 : ∀ w, R1 w → Calls Try.prog 46 #[.pointer (some ⟨W, 0, none⟩), .pointer (some ⟨M, o + 3, none⟩)] w fun e w' => e = .returned (.tuple #[]) ∧ R2 w')
    (C2 : ∀ w, R2 w → Calls Try.prog 46 #[.pointer (some ⟨W, 0, none⟩), .pointer (some ⟨M, o + 4, none⟩)] w fun e w' => e = .returned (.tuple #[]) ∧ R3 w')
    (C3 : ∀ w, R3 w → Calls Try.prog 33 #[.pointer (some ⟨W, 0, none⟩), .slice (some ⟨w.heap.size, 0, none⟩) 2 2] (w.alloc (.cells #[.pointer (some ⟨M, o + 5, none⟩), .pointer (some ⟨M, o + 6, none⟩)] 71)).drew fun e w' => e = .returned (.tuple #[]) ∧ R4 w')
    (w : World) (h : R0 w) :
    Calls Try.prog 34 #[.pointer (some ⟨W, 0, none⟩), .pointer (some ⟨M, o, none⟩)] w fun e w' => e = .returned (.tuple #[]) ∧ R4 w' := by
  have D0 := hide C0
  have D1 := hide C1
  have D2 := hide C2
  have D3 := hide C3
  have H0 := hide h
  clear h C0 C1 C2 C3
  go_enter Try.func34, Try.ntmps34
  go_wp2_with fail
  go_cut [] (fun w2 => Hid (R1 w2))
  case first =>
    go_region_held3 (fun _ => True) (exact True.intro) ((go_at_call 33; refine (D0.out _ H0.out).mono ?_; rintro e w1 ⟨rfl, hw⟩))
    all_goals (have HW := hide hw; clear hw; go_wp2_with fail; go_meet; case rel => exact HW)
  case rest =>
    have H1 := hcut
    clear hcut H0
    go_wp2_with fail
    refine (D1.out _ H1.out).mono ?_
    rintro e wc2 ⟨rfl, hw⟩
    have H2 := hide hw
    clear hw H1
    go_wp2_with fail
    refine (D2.out _ H2.out).mono ?_
    rintro e wc3 ⟨rfl, hw⟩
    have H3 := hide hw
    clear hw H2
    go_wp2_with fail
    go_region_held3 (fun _ => True) (exact True.intro) ((go_at_call 33; refine (D3.out _ H3.out).mono ?_; rintro e w1 ⟨rfl, hw⟩))
    all_goals (have HW := hide hw; clear hw; go_wp2_with fail; refine bodyPost_end (results_none rfl _ _ _) rfl ?_; exact ⟨rfl, HW.out⟩)
end Go.Proofs.Ytjhcedgncdcpjaa

namespace Go.Proofs.Ytjhcedgncdcpjaa
open Go.ChangeShapes Go.WideShapes Go.ChangeAt Go.RowKit
set_option linter.unusedVariables false

set_option maxRecDepth 100000 in
set_option maxHeartbeats 4000000 in
theorem doc_place {W M o : Nat} {R0 R1 R2 R3 : World → Prop}
    (C0 : ∀ w, R0 w → Calls Try.prog 31 #[.pointer (some ⟨W, 0, none⟩), .pointer (some ⟨M, o, none⟩)] w fun e w' => e = .returned (.tuple #[]) ∧ R1 w')
    (C1 : ∀ w, R1 w → Calls Try.prog 46 #[.pointer (some ⟨W, 0, none⟩), .pointer (some ⟨M, o + 1, none⟩)] w fun e w' => e = .returned (.tuple #[]) ∧ R2 w')
    (C2 : ∀ w, R2 w → Calls Try.prog 31 #[.pointer (some ⟨W, 0, none⟩), .pointer (some ⟨M, o + 2, none⟩)] w fun e w' => e = .returned (.tuple #[]) ∧ R3 w')
    (w : World) (h : R0 w) :
    Calls Try.prog 45 #[.pointer (some ⟨W, 0, none⟩), .pointer (some ⟨M, o, none⟩)] w fun e w' => e = .returned (.tuple #[]) ∧ R3 w' := by
  have D0 := hide C0
  have D1 := hide C1
  have D2 := hide C2
  have H0 := hide h
  clear h C0 C1 C2
  go_enter Try.func45, Try.ntmps45
  go_wp2_with fail
  refine (D0.out _ H0.out).mono ?_
  rintro e wc1 ⟨rfl, hw⟩
  have H1 := hide hw
  clear hw H0
  go_wp2_with fail
  refine (D1.out _ H1.out).mono ?_
  rintro e wc2 ⟨rfl, hw⟩
  have H2 := hide hw
  clear hw H1
  go_wp2_with fail
  refine (D2.out _ H2.out).mono ?_
  rintro e wc3 ⟨rfl, hw⟩
  have H3 := hide hw
  clear hw H2
  go_wp2_with fail
  refine bodyPost_end (results_none rfl _ _ _) rfl ?_
  exact ⟨rfl, H3.out⟩
end Go.Proofs.Ytjhcedgncdcpjaa

namespace Go.Proofs.Ytjhcedgncdcpjaa
open Go.ChangeShapes Go.WideShapes Go.ChangeAt Go.RowKit
set_option linter.unusedVariables false

set_option maxRecDepth 100000 in
set_option maxHeartbeats 4000000 in
theorem doc_mark {W M o : Nat} {R0 R1 R2 R3 : World → Prop}
    (C0 : ∀ w, R0 w → Calls Try.prog 33 #[.pointer (some ⟨W, 0, none⟩), .slice (some ⟨w.heap.size, 0, none⟩) 2 2] (w.alloc (.cells #[.pointer (some ⟨M, o, none⟩), .pointer (some ⟨M, o + 1, none⟩)] 71)).drew fun e w' => e = .returned (.tuple #[]) ∧ R1 w')
    (C1 : ∀ w, R1 w → Calls Try.prog 55 #[.pointer (some ⟨W, 0, none⟩), .pointer (some ⟨M, o + 2, none⟩)] w fun e w' => e = .returned (.tuple #[]) ∧ R2 w')
    (C2 : ∀ w, R2 w → Calls Try.prog 56 #[.pointer (some ⟨W, 0, none⟩), .pointer (some ⟨M, o + 3, none⟩)] w fun e w' => e = .returned (.tuple #[]) ∧ R3 w')
    (w : World) (h : R0 w) :
    Calls Try.prog 47 #[.pointer (some ⟨W, 0, none⟩), .pointer (some ⟨M, o, none⟩)] w fun e w' => e = .returned (.tuple #[]) ∧ R3 w' := by
  have D0 := hide C0
  have D1 := hide C1
  have D2 := hide C2
  have H0 := hide h
  clear h C0 C1 C2
  go_enter Try.func47, Try.ntmps47
  go_wp2_with fail
  go_cut [] (fun w2 => Hid (R1 w2))
  case first =>
    go_region_held3 (fun _ => True) (exact True.intro) ((go_at_call 33; refine (D0.out _ H0.out).mono ?_; rintro e w1 ⟨rfl, hw⟩))
    all_goals (have HW := hide hw; clear hw; go_wp2_with fail; go_meet; case rel => exact HW)
  case rest =>
    have H1 := hcut
    clear hcut H0
    go_wp2_with fail
    refine (D1.out _ H1.out).mono ?_
    rintro e wc2 ⟨rfl, hw⟩
    have H2 := hide hw
    clear hw H1
    go_wp2_with fail
    refine (D2.out _ H2.out).mono ?_
    rintro e wc3 ⟨rfl, hw⟩
    have H3 := hide hw
    clear hw H2
    go_wp2_with fail
    refine bodyPost_end (results_none rfl _ _ _) rfl ?_
    exact ⟨rfl, H3.out⟩
end Go.Proofs.Ytjhcedgncdcpjaa
