/- The closures that hand a list's element to a thing's function, whoever the clerk is. No condition. -/
import Derived.Test.YtiafohpigkkgbaaJA
import Derived.Deep.RegionHeld3
import Derived.Deep.DeepCutAuto
namespace Go.Proofs.Ytiafohpigkkgbaa
open Go.ChangeShapes Go.WideShapes Go.ChangeAt Go.RowKit
set_option linter.unusedVariables false
set_option maxRecDepth 100000 in
theorem clos_chart1 {D : TypeId} {W C g o : Nat} {R0 R1 : World → Prop} (L0 : ∀ w, R0 w → w.cell? ⟨C, 0, none⟩ = some (.iface D (.pointer (some ⟨W, 0, none⟩))))
    (C0 : ∀ w, R0 w → Calls Try.prog 52 #[.iface D (.pointer (some ⟨W, 0, none⟩)), .pointer (some ⟨g, o, none⟩)] w fun e w' => e = .returned (.tuple #[]) ∧ R1 w') (w : World) (h : R0 w) :
    Calls Try.prog 51 #[.pointer (some ⟨g, o, none⟩), .pointer (some ⟨C, 0, none⟩)] w fun e w' => e = .returned (.tuple #[]) ∧ R1 w' := by
  have c0 := L0 w h
  have D0 := hide (C0 w h)
  clear h C0 L0
  go_enter Try.func51, Try.ntmps51
  go_wp2_with fail
  refine D0.out.mono ?_
  rintro e w1 ⟨rfl, hw⟩
  have HW := hide hw
  clear hw
  go_wp2_with fail
  refine bodyPost_end (results_none rfl _ _ _) rfl ?_
  exact ⟨rfl, HW.out⟩
set_option maxRecDepth 100000 in
theorem clos_chart2 {D : TypeId} {W C g o : Nat} {R0 R1 : World → Prop} (L0 : ∀ w, R0 w → w.cell? ⟨C, 0, none⟩ = some (.iface D (.pointer (some ⟨W, 0, none⟩))))
    (C0 : ∀ w, R0 w → Calls Try.prog 37 #[.iface D (.pointer (some ⟨W, 0, none⟩)), .pointer (some ⟨g, o, none⟩)] w fun e w' => e = .returned (.tuple #[]) ∧ R1 w') (w : World) (h : R0 w) :
    Calls Try.prog 53 #[.pointer (some ⟨g, o, none⟩), .pointer (some ⟨C, 0, none⟩)] w fun e w' => e = .returned (.tuple #[]) ∧ R1 w' := by
  have c0 := L0 w h
  have D0 := hide (C0 w h)
  clear h C0 L0
  go_enter Try.func53, Try.ntmps53
  go_wp2_with fail
  refine D0.out.mono ?_
  rintro e w1 ⟨rfl, hw⟩
  have HW := hide hw
  clear hw
  go_wp2_with fail
  refine bodyPost_end (results_none rfl _ _ _) rfl ?_
  exact ⟨rfl, HW.out⟩
set_option maxRecDepth 100000 in
theorem clos_state1 {D : TypeId} {W C g o : Nat} {R0 R1 : World → Prop} (L0 : ∀ w, R0 w → w.cell? ⟨C, 0, none⟩ = some (.iface D (.pointer (some ⟨W, 0, none⟩))))
    (C0 : ∀ w, R0 w → Calls Try.prog 34 #[.iface D (.pointer (some ⟨W, 0, none⟩)), .pointer (some ⟨g, o, none⟩)] w fun e w' => e = .returned (.tuple #[]) ∧ R1 w') (w : World) (h : R0 w) :
    Calls Try.prog 33 #[.pointer (some ⟨g, o, none⟩), .pointer (some ⟨C, 0, none⟩)] w fun e w' => e = .returned (.tuple #[]) ∧ R1 w' := by
  have c0 := L0 w h
  have D0 := hide (C0 w h)
  clear h C0 L0
  go_enter Try.func33, Try.ntmps33
  go_wp2_with fail
  refine D0.out.mono ?_
  rintro e w1 ⟨rfl, hw⟩
  have HW := hide hw
  clear hw
  go_wp2_with fail
  refine bodyPost_end (results_none rfl _ _ _) rfl ?_
  exact ⟨rfl, HW.out⟩
set_option maxRecDepth 100000 in
theorem clos_state2 {D : TypeId} {W C g o : Nat} {R0 R1 : World → Prop} (L0 : ∀ w, R0 w → w.cell? ⟨C, 0, none⟩ = some (.iface D (.pointer (some ⟨W, 0, none⟩))))
    (C0 : ∀ w, R0 w → Calls Try.prog 37 #[.iface D (.pointer (some ⟨W, 0, none⟩)), .pointer (some ⟨g, o, none⟩)] w fun e w' => e = .returned (.tuple #[]) ∧ R1 w') (w : World) (h : R0 w) :
    Calls Try.prog 36 #[.pointer (some ⟨g, o, none⟩), .pointer (some ⟨C, 0, none⟩)] w fun e w' => e = .returned (.tuple #[]) ∧ R1 w' := by
  have c0 := L0 w h
  have D0 := hide (C0 w h)
  clear h C0 L0
  go_enter Try.func36, Try.ntmps36
  go_wp2_with fail
  refine D0.out.mono ?_
  rintro e w1 ⟨rfl, hw⟩
  have HW := hide hw
  clear hw
  go_wp2_with fail
  refine bodyPost_end (results_none rfl _ _ _) rfl ?_
  exact ⟨rfl, HW.out⟩
set_option maxRecDepth 100000 in
theorem clos_state3 {D : TypeId} {W C g o : Nat} {R0 R1 : World → Prop} (L0 : ∀ w, R0 w → w.cell? ⟨C, 0, none⟩ = some (.iface D (.pointer (some ⟨W, 0, none⟩))))
    (C0 : ∀ w, R0 w → Calls Try.prog 40 #[.iface D (.pointer (some ⟨W, 0, none⟩)), .pointer (some ⟨g, o, none⟩)] w fun e w' => e = .returned (.tuple #[]) ∧ R1 w') (w : World) (h : R0 w) :
    Calls Try.prog 39 #[.pointer (some ⟨g, o, none⟩), .pointer (some ⟨C, 0, none⟩)] w fun e w' => e = .returned (.tuple #[]) ∧ R1 w' := by
  have c0 := L0 w h
  have D0 := hide (C0 w h)
  clear h C0 L0
  go_enter Try.func39, Try.ntmps39
  go_wp2_with fail
  refine D0.out.mono ?_
  rintro e w1 ⟨rfl, hw⟩
  have HW := hide hw
  clear hw
  go_wp2_with fail
  refine bodyPost_end (results_none rfl _ _ _) rfl ?_
  exact ⟨rfl, HW.out⟩
set_option maxRecDepth 100000 in
theorem clos_state4 {D : TypeId} {W C g o : Nat} {R0 R1 : World → Prop} (L0 : ∀ w, R0 w → w.cell? ⟨C, 0, none⟩ = some (.iface D (.pointer (some ⟨W, 0, none⟩))))
    (C0 : ∀ w, R0 w → Calls Try.prog 43 #[.iface D (.pointer (some ⟨W, 0, none⟩)), .pointer (some ⟨g, o, none⟩)] w fun e w' => e = .returned (.tuple #[]) ∧ R1 w') (w : World) (h : R0 w) :
    Calls Try.prog 42 #[.pointer (some ⟨g, o, none⟩), .pointer (some ⟨C, 0, none⟩)] w fun e w' => e = .returned (.tuple #[]) ∧ R1 w' := by
  have c0 := L0 w h
  have D0 := hide (C0 w h)
  clear h C0 L0
  go_enter Try.func42, Try.ntmps42
  go_wp2_with fail
  refine D0.out.mono ?_
  rintro e w1 ⟨rfl, hw⟩
  have HW := hide hw
  clear hw
  go_wp2_with fail
  refine bodyPost_end (results_none rfl _ _ _) rfl ?_
  exact ⟨rfl, HW.out⟩
set_option maxRecDepth 100000 in
set_option maxHeartbeats 1000000 in
theorem clos_state5 {D : TypeId} {W C g o : Nat} {R0 R1 : World → Prop}
    {Fints : FuncId} (nn_ints : ∀ (a : Addr) (w : World), (nilAhead 316 D (.pointer (some a)) "purse/wire.ints").run Try.prog w = .ok (some false) w) (mm_ints : ∀ (a : Addr) (w : World), (method 316 D (.pointer (some a)) "purse/wire.ints").run Try.prog w = .ok (Fints, .pointer (some a)) w) (cc_ints : ∀ (args : Array Value) (w : World), (callFunc Fints args).run Try.prog w = .ok (.enter Fints args) w)
    (L0 : ∀ w, R0 w → w.cell? ⟨C, 0, none⟩ = some (.iface D (.pointer (some ⟨W, 0, none⟩)))) (L1 : ∀ w, R1 w → w.cell? ⟨C, 0, none⟩ = some (.iface D (.pointer (some ⟨W, 0, none⟩))))
    (C0 : ∀ w, R0 w → Calls Try.prog Fints #[.pointer (some ⟨W, 0, none⟩), .slice (some ⟨w.heap.size, 0, none⟩) 2 2] (w.alloc (.cells #[.pointer (some ⟨g, o, none⟩), .pointer (some ⟨g, o + 1, none⟩)] 88)).drew fun e w' => e = .returned (.tuple #[]) ∧ R1 w') (w : World) (h : R0 w) :
    Calls Try.prog 45 #[.pointer (some ⟨g, o, none⟩), .pointer (some ⟨C, 0, none⟩)] w fun e w' => e = .returned (.tuple #[]) ∧ R1 w' := by
  have c0 := L0 w h
  have D0 := hide (C0 w h)
  have K1 := hide L1
  clear h C0 L0 L1
  go_enter Try.func45, Try.ntmps45
  go_wp2_with fail
  go_region_held3 (fun u => u.cell? ⟨C, 0, none⟩ = some (.iface D (.pointer (some ⟨W, 0, none⟩)))) (first | go_keep | exact K1.out _ hw) ((refine D0.out.mono ?_; rintro e w1 ⟨rfl, hw⟩))
  all_goals (have HW := hide hw; clear hw; go_wp2_with fail; refine bodyPost_end (results_none rfl _ _ _) rfl ?_; exact ⟨rfl, HW.out⟩)
set_option maxRecDepth 100000 in
set_option maxHeartbeats 1000000 in
theorem clos_account1 {D : TypeId} {W C g o : Nat} {R0 R1 : World → Prop}
    {Fints : FuncId} (nn_ints : ∀ (a : Addr) (w : World), (nilAhead 316 D (.pointer (some a)) "purse/wire.ints").run Try.prog w = .ok (some false) w) (mm_ints : ∀ (a : Addr) (w : World), (method 316 D (.pointer (some a)) "purse/wire.ints").run Try.prog w = .ok (Fints, .pointer (some a)) w) (cc_ints : ∀ (args : Array Value) (w : World), (callFunc Fints args).run Try.prog w = .ok (.enter Fints args) w)
    (L0 : ∀ w, R0 w → w.cell? ⟨C, 0, none⟩ = some (.iface D (.pointer (some ⟨W, 0, none⟩)))) (L1 : ∀ w, R1 w → w.cell? ⟨C, 0, none⟩ = some (.iface D (.pointer (some ⟨W, 0, none⟩))))
    (C0 : ∀ w, R0 w → Calls Try.prog Fints #[.pointer (some ⟨W, 0, none⟩), .slice (some ⟨w.heap.size, 0, none⟩) 4 4] (w.alloc (.cells #[.pointer (some ⟨g, o, none⟩), .pointer (some ⟨g, o + 1, none⟩), .pointer (some ⟨g, o + 2, none⟩), .pointer (some ⟨g, o + 3, none⟩)] 88)).drew fun e w' => e = .returned (.tuple #[]) ∧ R1 w') (w : World) (h : R0 w) :
    Calls Try.prog 57 #[.pointer (some ⟨g, o, none⟩), .pointer (some ⟨C, 0, none⟩)] w fun e w' => e = .returned (.tuple #[]) ∧ R1 w' := by
  have c0 := L0 w h
  have D0 := hide (C0 w h)
  have K1 := hide L1
  clear h C0 L0 L1
  go_enter Try.func57, Try.ntmps57
  go_wp2_with fail
  go_region_held3 (fun u => u.cell? ⟨C, 0, none⟩ = some (.iface D (.pointer (some ⟨W, 0, none⟩)))) (first | go_keep | exact K1.out _ hw) ((refine D0.out.mono ?_; rintro e w1 ⟨rfl, hw⟩))
  all_goals (have HW := hide hw; clear hw; go_wp2_with fail; refine bodyPost_end (results_none rfl _ _ _) rfl ?_; exact ⟨rfl, HW.out⟩)
end Go.Proofs.Ytiafohpigkkgbaa
