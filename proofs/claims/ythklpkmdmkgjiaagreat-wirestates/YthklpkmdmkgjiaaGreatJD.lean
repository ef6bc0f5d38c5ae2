/- The walk of the landed function op over a thing, whoever the clerk is. No condition. -/
import Derived.Test.YthklpkmdmkgjiaaGreatJA
import Derived.Deep.RegionHeld3
import Derived.Deep.DeepCutAuto
namespace Go.Proofs.YthklpkmdmkgjiaaGreat
open Go.ChangeShapes Go.WideShapes Go.ChangeAt Go.RowKit
set_option linter.unusedVariables false

set_option maxRecDepth 100000 in
set_option maxHeartbeats 4000000 in
theorem go_op {D : TypeId} {W M o : Nat}
    {Fints : FuncId} (nn_ints : ∀ (a : Addr) (w : World), (nilAhead 319 D (.pointer (some a)) "purse/wire.ints").run Tryz.prog w = .ok (some false) w) (mm_ints : ∀ (a : Addr) (w : World), (method 319 D (.pointer (some a)) "purse/wire.ints").run Tryz.prog w = .ok (Fints, .pointer (some a)) w) (cc_ints : ∀ (args : Array Value) (w : World), (callFunc Fints args).run Tryz.prog w = .ok (.enter Fints args) w)
    {Ftexts : FuncId} (nn_texts : ∀ (a : Addr) (w : World), (nilAhead 319 D (.pointer (some a)) "purse/wire.texts").run Tryz.prog w = .ok (some false) w) (mm_texts : ∀ (a : Addr) (w : World), (method 319 D (.pointer (some a)) "purse/wire.texts").run Tryz.prog w = .ok (Ftexts, .pointer (some a)) w) (cc_texts : ∀ (args : Array Value) (w : World), (callFunc Ftexts args).run Tryz.prog w = .ok (.enter Ftexts args) w)
    {R0 R1 R2 R3 : World → Prop}
    (C0 : ∀ w, R0 w → Calls Tryz.prog Fints #[.pointer (some ⟨W, 0, none⟩), .slice (some ⟨w.heap.size, 0, none⟩) 1 1] (w.alloc (.cells #[.pointer (some ⟨M, o, none⟩)] 82)).drew fun e w' => e = .returned (.tuple #[]) ∧ R1 w')
    (C1 : ∀ w, R1 w → Calls Tryz.prog Ftexts #[.pointer (some ⟨W, 0, none⟩), .slice (some ⟨w.heap.size, 0, none⟩) 2 2] (w.alloc (.cells #[.pointer (some ⟨M, o + 1, none⟩), .pointer (some ⟨M, o + 2, none⟩)] 86)).drew fun e w' => e = .returned (.tuple #[]) ∧ R2 w')
    (C2 : ∀ w, R2 w → Calls Tryz.prog Fints #[.pointer (some ⟨W, 0, none⟩), .slice (some ⟨w.heap.size, 0, none⟩) 3 3] (w.alloc (.cells #[.pointer (some ⟨M, o + 3, none⟩), .pointer (some ⟨M, o + 4, none⟩), .pointer (some ⟨M, o + 5, none⟩)] 82)).drew fun e w' => e = .returned (.tuple #[]) ∧ R3 w')
    (w : World) (h : R0 w) :
    Calls Tryz.prog 64 #[.iface D (.pointer (some ⟨W, 0, none⟩)), .pointer (some ⟨M, o, none⟩)] w fun e w' => e = .returned (.tuple #[]) ∧ R3 w' := by
  have D0 := hide C0
  have D1 := hide C1
  have D2 := hide C2
  have H0 := hide h
  clear h C0 C1 C2
  go_enter Tryz.func64, Tryz.ntmps64
  go_wp2_with fail
  go_cut [] (fun w2 => Hid (R1 w2))
  case first =>
    go_region_held3 (fun _ => True) (exact True.intro) ((refine (D0.out _ H0.out).mono ?_; rintro e w1 ⟨rfl, hw⟩))
    all_goals (have HW := hide hw; clear hw; go_wp2_with fail; go_meet; case rel => exact HW)
  case rest =>
    have H1 := hcut
    clear hcut H0
    go_wp2_with fail
    go_cut [] (fun w2 => Hid (R2 w2))
    case first =>
      go_region_held3 (fun _ => True) (exact True.intro) ((refine (D1.out _ H1.out).mono ?_; rintro e w1 ⟨rfl, hw⟩))
      all_goals (have HW := hide hw; clear hw; go_wp2_with fail; go_meet; case rel => exact HW)
    case rest =>
      have H2 := hcut
      clear hcut H1
      go_wp2_with fail
      go_region_held3 (fun _ => True) (exact True.intro) ((refine (D2.out _ H2.out).mono ?_; rintro e w1 ⟨rfl, hw⟩))
      all_goals (have HW := hide hw; clear hw; go_wp2_with fail; refine bodyPost_end (results_none rfl _ _ _) rfl ?_; exact ⟨rfl, HW.out⟩)
end Go.Proofs.YthklpkmdmkgjiaaGreat
