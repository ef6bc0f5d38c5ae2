/- The closures that hand a list's element to a thing's function, whoever the clerk is. No condition. -/
import Derived.Test.YtghmgomlobddfaaJA
import Derived.Deep.RegionHeld3
import Derived.Deep.DeepCutAuto
namespace Go.Proofs.Ytghmgomlobddfaa
open Go.ChangeShapes Go.WideShapes Go.ChangeAt Go.RowKit
set_option linter.unusedVariables false
set_option maxRecDepth 100000 in
theorem clos_letter1 {D : TypeId} {W C g o : Nat} {R0 R1 : World → Prop} (L0 : ∀ w, R0 w → w.cell? ⟨C, 0, none⟩ = some (.iface D (.pointer (some ⟨W, 0, none⟩))))
    (C0 : ∀ w, R0 w → Calls Try.prog 36 #[.iface D (.pointer (some ⟨W, 0, none⟩)), .pointer (some ⟨g, o, none⟩)] w fun e w' => e = .returned (.tuple #[]) ∧ R1 w') (w : World) (h : R0 w) :
    Calls Try.prog 45 #[.pointer (some ⟨g, o, none⟩), .pointer (some ⟨C, 0, none⟩)] w fun e w' => e = .returned (.tuple #[]) ∧ R1 w' := by
  have c0 := L0 w h
  have D0 := hide (C0 w h)
  clear h C0 L0
  go_enter Try.func45, Try.ntmps45
  go_wp2_with fail
  refine D0.out.mono ?_
  rintro e w1 ⟨rfl, hw⟩
  have HW := hide hw
  clear hw
  go_wp2_with fail
  refine bodyPost_end (results_none rfl _ _ _) rfl ?_
  exact ⟨rfl, HW.out⟩
set_option maxRecDepth 100000 in
theorem clos_letter2 {D : TypeId} {W C g o : Nat} {R0 R1 : World → Prop} (L0 : ∀ w, R0 w → w.cell? ⟨C, 0, none⟩ = some (.iface D (.pointer (some ⟨W, 0, none⟩))))
    (C0 : ∀ w, R0 w → Calls Try.prog 37 #[.iface D (.pointer (some ⟨W, 0, none⟩)), .pointer (some ⟨g, o, none⟩)] w fun e w' => e = .returned (.tuple #[]) ∧ R1 w') (w : World) (h : R0 w) :
    Calls Try.prog 47 #[.pointer (some ⟨g, o, none⟩), .pointer (some ⟨C, 0, none⟩)] w fun e w' => e = .returned (.tuple #[]) ∧ R1 w' := by
  have c0 := L0 w h
  have D0 := hide (C0 w h)
  clear h C0 L0
  go_enter Try.func47, Try.ntmps47
  go_wp2_with fail
  refine D0.out.mono ?_
  rintro e w1 ⟨rfl, hw⟩
  have HW := hide hw
  clear hw
  go_wp2_with fail
  refine bodyPost_end (results_none rfl _ _ _) rfl ?_
  exact ⟨rfl, HW.out⟩
end Go.Proofs.Ytghmgomlobddfaa
