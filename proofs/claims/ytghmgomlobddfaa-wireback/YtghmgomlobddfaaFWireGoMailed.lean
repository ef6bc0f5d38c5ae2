/- The walk of the landed function mailed over a thing, whoever the clerk is. No condition. -/
import Derived.Test.YtghmgomlobddfaaJA
import Derived.Deep.RegionHeld3
import Derived.Deep.DeepCutAuto
namespace Go.Proofs.Ytghmgomlobddfaa
open Go.ChangeShapes Go.WideShapes Go.ChangeAt Go.RowKit
set_option linter.unusedVariables false

set_option maxRecDepth 100000 in
set_option maxHeartbeats 4000000 in
theorem go_mailed {D : TypeId} {W M o : Nat}
    {Fints : FuncId} (nn_ints : ∀ (a : Addr) (w : World), (nilAhead 276 D (.pointer (some a)) "purse/wire.ints").run Try.prog w = .ok (some false) w) (mm_ints : ∀ (a : Addr) (w : World), (method 276 D (.pointer (some a)) "purse/wire.ints").run Try.prog w = .ok (Fints, .pointer (some a)) w) (cc_ints : ∀ (args : Array Value) (w : World), (callFunc Fints args).run Try.prog w = .ok (.enter Fints args) w)
    {R0 R1 R2 : World → Prop}
    (C0 : ∀ w, R0 w → Calls Try.prog Fints #[.pointer (some ⟨W, 0, none⟩), .slice (some ⟨w.heap.size, 0, none⟩) 1 1] (w.alloc (.cells #[.pointer (some ⟨M, o, none⟩)] 88)).drew fun e w' => e = .returned (.tuple #[]) ∧ R1 w')
    (C1 : ∀ w, R1 w → Calls Try.prog 39 #[.iface D (.pointer (some ⟨W, 0, none⟩)), .pointer (some ⟨M, o + 1, none⟩)] w fun e w' => e = .returned (.tuple #[]) ∧ R2 w')
    (w : World) (h : R0 w) :
    Calls Try.prog 24 #[.iface D (.pointer (some ⟨W, 0, none⟩)), .pointer (some ⟨M, o, none⟩)] w fun e w' => e = .returned (.tuple #[]) ∧ R2 w' := by
  have D0 := hide C0
  have D1 := hide C1
  have H0 := hide h
  clear h C0 C1
  go_enter Try.func24, Try.ntmps24
  go_wp2_with fail
  go_cut [] (fun w2 => Hid (R1 w2))
  case first =>
    go_region_held3 (fun _ => True) (exact True.intro) ((refine (D0.out _ H0.out).mono ?_; rintro e w1 ⟨rfl, hw⟩))
    all_goals (have HW := hide hw; clear hw; go_wp2_with fail; go_meet; case rel => exact HW)
  case rest =>
    have H1 := hcut
    clear hcut H0
    go_wp2_with fail
    refine (D1.out _ H1.out).mono ?_
    rintro e w1 ⟨rfl, hw⟩
    all_goals (have HW := hide hw; clear hw; go_wp2_with fail; refine bodyPost_end (results_none rfl _ _ _) rfl ?_; exact ⟨rfl, HW.out⟩)
end Go.Proofs.Ytghmgomlobddfaa
