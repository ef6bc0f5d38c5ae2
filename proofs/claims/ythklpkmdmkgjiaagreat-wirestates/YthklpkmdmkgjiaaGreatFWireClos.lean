/- The closures that hand a list's element to a thing's function, whoever the clerk is. No condition. -/
import Derived.Test.YthklpkmdmkgjiaaGreatJA
import Derived.Deep.RegionHeld3
import Derived.Deep.DeepCutAuto
namespace Go.Proofs.YthklpkmdmkgjiaaGreat
open Go.ChangeShapes Go.WideShapes Go.ChangeAt Go.RowKit
set_option linter.unusedVariables false
set_option maxRecDepth 100000 in
theorem clos_state1 {D : TypeId} {W C g o : Nat} {R0 R1 : World → Prop} (L0 : ∀ w, R0 w → w.cell? ⟨C, 0, none⟩ = some (.iface D (.pointer (some ⟨W, 0, none⟩))))
    (C0 : ∀ w, R0 w → Calls Tryz.prog 30 #[.iface D (.pointer (some ⟨W, 0, none⟩)), .pointer (some ⟨g, o, none⟩)] w fun e w' => e = .returned (.tuple #[]) ∧ R1 w') (w : World) (h : R0 w) :
    Calls Tryz.prog 29 #[.pointer (some ⟨g, o, none⟩), .pointer (some ⟨C, 0, none⟩)] w fun e w' => e = .returned (.tuple #[]) ∧ R1 w' := by
  have c0 := L0 w h
  have D0 := hide (C0 w h)
  clear h C0 L0
  go_enter Tryz.func29, Tryz.ntmps29
  go_wp2_with fail
  refine D0.out.mono ?_
  rintro e w1 ⟨rfl, hw⟩
  have HW := hide hw
  clear hw
  go_wp2_with fail
  refine bodyPost_end (results_none rfl _ _ _) rfl ?_
  exact ⟨rfl, HW.out⟩
set_option maxRecDepth 100000 in
theorem clos_state2 {D : TypeId} {W C g o : Nat} {R0 R1 : World → Prop} (L0 : ∀ w, R0 w → w.cell? ⟨C, 0, none⟩ = some (.iface D (.pointer (some ⟨W, 0, none⟩))))
    (C0 : ∀ w, R0 w → Calls Tryz.prog 33 #[.iface D (.pointer (some ⟨W, 0, none⟩)), .pointer (some ⟨g, o, none⟩)] w fun e w' => e = .returned (.tuple #[]) ∧ R1 w') (w : World) (h : R0 w) :
    Calls Tryz.prog 32 #[.pointer (some ⟨g, o, none⟩), .pointer (some ⟨C, 0, none⟩)] w fun e w' => e = .returned (.tuple #[]) ∧ R1 w' := by
  have c0 := L0 w h
  have D0 := hide (C0 w h)
  clear h C0 L0
  go_enter Tryz.func32, Tryz.ntmps32
  go_wp2_with fail
  refine D0.out.mono ?_
  rintro e w1 ⟨rfl, hw⟩
  have HW := hide hw
  clear hw
  go_wp2_with fail
  refine bodyPost_end (results_none rfl _ _ _) rfl ?_
  exact ⟨rfl, HW.out⟩
set_option maxRecDepth 100000 in
theorem clos_state3 {D : TypeId} {W C g o : Nat} {R0 R1 : World → Prop} (L0 : ∀ w, R0 w → w.cell? ⟨C, 0, none⟩ = some (.iface D (.pointer (some ⟨W, 0, none⟩))))
    (C0 : ∀ w, R0 w → Calls Tryz.prog 36 #[.iface D (.pointer (some ⟨W, 0, none⟩)), .pointer (some ⟨g, o, none⟩)] w fun e w' => e = .returned (.tuple #[]) ∧ R1 w') (w : World) (h : R0 w) :
    Calls Tryz.prog 35 #[.pointer (some ⟨g, o, none⟩), .pointer (some ⟨C, 0, none⟩)] w fun e w' => e = .returned (.tuple #[]) ∧ R1 w' := by
  have c0 := L0 w h
  have D0 := hide (C0 w h)
  clear h C0 L0
  go_enter Tryz.func35, Tryz.ntmps35
  go_wp2_with fail
  refine D0.out.mono ?_
  rintro e w1 ⟨rfl, hw⟩
  have HW := hide hw
  clear hw
  go_wp2_with fail
  refine bodyPost_end (results_none rfl _ _ _) rfl ?_
  exact ⟨rfl, HW.out⟩
set_option maxRecDepth 100000 in
theorem clos_state4 {D : TypeId} {W C g o : Nat} {R0 R1 : World → Prop} (L0 : ∀ w, R0 w → w.cell? ⟨C, 0, none⟩ = some (.iface D (.pointer (some ⟨W, 0, none⟩))))
    (C0 : ∀ w, R0 w → Calls Tryz.prog 39 #[.iface D (.pointer (some ⟨W, 0, none⟩)), .pointer (some ⟨g, o, none⟩)] w fun e w' => e = .returned (.tuple #[]) ∧ R1 w') (w : World) (h : R0 w) :
    Calls Tryz.prog 38 #[.pointer (some ⟨g, o, none⟩), .pointer (some ⟨C, 0, none⟩)] w fun e w' => e = .returned (.tuple #[]) ∧ R1 w' := by
  have c0 := L0 w h
  have D0 := hide (C0 w h)
  clear h C0 L0
  go_enter Tryz.func38, Tryz.ntmps38
  go_wp2_with fail
  refine D0.out.mono ?_
  rintro e w1 ⟨rfl, hw⟩
  have HW := hide hw
  clear hw
  go_wp2_with fail
  refine bodyPost_end (results_none rfl _ _ _) rfl ?_
  exact ⟨rfl, HW.out⟩
set_option maxRecDepth 100000 in
set_option maxHeartbeats 1000000 in
theorem clos_state5 {D : TypeId} {W C g o : Nat} {R0 R1 : World → Prop}
    {Fints : FuncId} (nn_ints : ∀ (a : Addr) (w : World), (nilAhead 319 D (.pointer (some a)) "purse/wire.ints").run Tryz.prog w = .ok (some false) w) (mm_ints : ∀ (a : Addr) (w : World), (method 319 D (.pointer (some a)) "purse/wire.ints").run Tryz.prog w = .ok (Fints, .pointer (some a)) w) (cc_ints : ∀ (args : Array Value) (w : World), (callFunc Fints args).run Tryz.prog w = .ok (.enter Fints args) w)
    (L0 : ∀ w, R0 w → w.cell? ⟨C, 0, none⟩ = some (.iface D (.pointer (some ⟨W, 0, none⟩)))) (L1 : ∀ w, R1 w → w.cell? ⟨C, 0, none⟩ = some (.iface D (.pointer (some ⟨W, 0, none⟩))))
    (C0 : ∀ w, R0 w → Calls Tryz.prog Fints #[.pointer (some ⟨W, 0, none⟩), .slice (some ⟨w.heap.size, 0, none⟩) 2 2] (w.alloc (.cells #[.pointer (some ⟨g, o, none⟩), .pointer (some ⟨g, o + 1, none⟩)] 82)).drew fun e w' => e = .returned (.tuple #[]) ∧ R1 w') (w : World) (h : R0 w) :
    Calls Tryz.prog 41 #[.pointer (some ⟨g, o, none⟩), .pointer (some ⟨C, 0, none⟩)] w fun e w' => e = .returned (.tuple #[]) ∧ R1 w' := by
  have c0 := L0 w h
  have D0 := hide (C0 w h)
  have K1 := hide L1
  clear h C0 L0 L1
  go_enter Tryz.func41, Tryz.ntmps41
  go_wp2_with fail
  go_region_held3 (fun u => u.cell? ⟨C, 0, none⟩ = some (.iface D (.pointer (some ⟨W, 0, none⟩)))) (first | go_keep | exact K1.out _ hw) ((refine D0.out.mono ?_; rintro e w1 ⟨rfl, hw⟩))
  all_goals (have HW := hide hw; clear hw; go_wp2_with fail; refine bodyPost_end (results_none rfl _ _ _) rfl ?_; exact ⟨rfl, HW.out⟩)
set_option maxRecDepth 100000 in
set_option maxHeartbeats 1000000 in
theorem clos_account1 {D : TypeId} {W C g o : Nat} {R0 R1 : World → Prop}
    {Fints : FuncId} (nn_ints : ∀ (a : Addr) (w : World), (nilAhead 319 D (.pointer (some a)) "purse/wire.ints").run Tryz.prog w = .ok (some false) w) (mm_ints : ∀ (a : Addr) (w : World), (method 319 D (.pointer (some a)) "purse/wire.ints").run Tryz.prog w = .ok (Fints, .pointer (some a)) w) (cc_ints : ∀ (args : Array Value) (w : World), (callFunc Fints args).run Tryz.prog w = .ok (.enter Fints args) w)
    (L0 : ∀ w, R0 w → w.cell? ⟨C, 0, none⟩ = some (.iface D (.pointer (some ⟨W, 0, none⟩)))) (L1 : ∀ w, R1 w → w.cell? ⟨C, 0, none⟩ = some (.iface D (.pointer (some ⟨W, 0, none⟩))))
    (C0 : ∀ w, R0 w → Calls Tryz.prog Fints #[.pointer (some ⟨W, 0, none⟩), .slice (some ⟨w.heap.size, 0, none⟩) 4 4] (w.alloc (.cells #[.pointer (some ⟨g, o, none⟩), .pointer (some ⟨g, o + 1, none⟩), .pointer (some ⟨g, o + 2, none⟩), .pointer (some ⟨g, o + 3, none⟩)] 82)).drew fun e w' => e = .returned (.tuple #[]) ∧ R1 w') (w : World) (h : R0 w) :
    Calls Tryz.prog 63 #[.pointer (some ⟨g, o, none⟩), .pointer (some ⟨C, 0, none⟩)] w fun e w' => e = .returned (.tuple #[]) ∧ R1 w' := by
  have c0 := L0 w h
  have D0 := hide (C0 w h)
  have K1 := hide L1
  clear h C0 L0 L1
  go_enter Tryz.func63, Tryz.ntmps63
  go_wp2_with fail
  go_region_held3 (fun u => u.cell? ⟨C, 0, none⟩ = some (.iface D (.pointer (some ⟨W, 0, none⟩)))) (first | go_keep | exact K1.out _ hw) ((refine D0.out.mono ?_; rintro e w1 ⟨rfl, hw⟩))
  all_goals (have HW := hide hw; clear hw; go_wp2_with fail; refine bodyPost_end (results_none rfl _ _ _) rfl ?_; exact ⟨rfl, HW.out⟩)
end Go.Proofs.YthklpkmdmkgjiaaGreat
