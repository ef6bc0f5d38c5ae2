/- The walk of the landed function plan over a thing, whoever the clerk is. No condition. The walk of the landed function command over a thing, whoever the clerk is. No condition. -/
import Derived.Test.YthklpkmdmkgjiaaGreatJA
import Derived.Deep.RegionHeld3
import Derived.Deep.DeepCutAuto
namespace Go.Proofs.YthklpkmdmkgjiaaGreat
open Go.ChangeShapes Go.WideShapes Go.ChangeAt Go.RowKit
set_option linter.unusedVariables false

set_option maxRecDepth 100000 in
set_option maxHeartbeats 4000000 in
theorem go_plan {D : TypeId} {W M o : Nat}
    {Fints : FuncId} (nn_ints : ∀ (a : Addr) (w : World), (nilAhead 319 D (.pointer (some a)) "purse/wire.ints").run Tryz.prog w = .ok (some false) w) (mm_ints : ∀ (a : Addr) (w : World), (method 319 D (.pointer (some a)) "purse/wire.ints").run Tryz.prog w = .ok (Fints, .pointer (some a)) w) (cc_ints : ∀ (args : Array Value) (w : World), (callFunc Fints args).run Tryz.prog w = .ok (.enter Fints args) w)
    {Ftexts : FuncId} (nn_texts : ∀ (a : Addr) (w : World), (nilAhead 319 D (.pointer (some a)) "purse/wire.texts").run Tryz.prog w = .ok (some false) w) (mm_texts : ∀ (a : Addr) (w : World), (method 319 D (.pointer (some a)) "purse/wire.texts").run Tryz.prog w = .ok (Ftexts, .pointer (some a)) w) (cc_texts : ∀ (args : Array Value) (w : World), (callFunc Ftexts args).run Tryz.prog w = .ok (.enter Ftexts args) w)
    {R0 R1 R2 R3 : World → Prop}
    (C0 : ∀ w, R0 w → Calls Tryz.prog Fints #[.pointer (some ⟨W, 0, none⟩), .slice (some ⟨w.heap.size, 0, none⟩) 3 3] (w.alloc (.cells #[.pointer (some ⟨M, o, none⟩), .pointer (some ⟨M, o + 1, none⟩), .pointer (some ⟨M, o + 2, none⟩)] 82)).drew fun e w' => e = .returned (.tuple #[]) ∧ R1 w')
    (C1 : ∀ w, R1 w → Calls Tryz.prog Ftexts #[.pointer (some ⟨W, 0, none⟩), .slice (some ⟨w.heap.size, 0, none⟩) 2 2] (w.alloc (.cells #[.pointer (some ⟨M, o + 3, none⟩), .pointer (some ⟨M, o + 4, none⟩)] 86)).drew fun e w' => e = .returned (.tuple #[]) ∧ R2 w')
    (C2 : ∀ w, R2 w → Calls Tryz.prog Fints #[.pointer (some ⟨W, 0, none⟩), .slice (some ⟨w.heap.size, 0, none⟩) 2 2] (w.alloc (.cells #[.pointer (some ⟨M, o + 5, none⟩), .pointer (some ⟨M, o + 6, none⟩)] 82)).drew fun e w' => e = .returned (.tuple #[]) ∧ R3 w')
    (w : World) (h : R0 w) :
    Calls Tryz.prog 42 #[.iface D (.pointer (some ⟨W, 0, none⟩)), .pointer (some ⟨M, o, none⟩)] w fun e w' => e = .returned (.tuple #[]) ∧ R3 w' := by
  have D0 := hide C0
  have D1 := hide C1
  have D2 := hide C2
  have H0 := hide h
  clear h C0 C1 C2
  go_enter Tryz.func42, Tryz.ntmps42
  go_wp2_with fail
  go_cut [] (fun w2 => Hid (R1 w2))
  case first =>
    go_region_held3 (fun _ => True) (exact True.intro) ((refine (D0.out _ H0.out).mono ?_; rintro e w1 ⟨rfl, hw⟩))
    all_goals (have HW := hide hw; clear hw; go_wp2_with fail; go_meet; case rel => exact HW)
  case rest =>
    have H1 := hcut
    clear hcut H0
    go_wp2_with fail
    go_cut [] (fun w2 => Hid (R2 w2))
    case first =>
      go_region_held3 (fun _ => True) (exact True.intro) ((refine (D1.out _ H1.out).mono ?_; rintro e w1 ⟨rfl, hw⟩))
      all_goals (have HW := hide hw; clear hw; go_wp2_with fail; go_meet; case rel => exact HW)
    case rest =>
      have H2 := hcut
      clear hcut H1
      go_wp2_with fail
      go_region_held3 (fun _ => True) (exact True.intro) ((refine (D2.out _ H2.out).mono ?_; rintro e w1 ⟨rfl, hw⟩))
      all_goals (have HW := hide hw; clear hw; go_wp2_with fail; refine bodyPost_end (results_none rfl _ _ _) rfl ?_; exact ⟨rfl, HW.out⟩)
end Go.Proofs.YthklpkmdmkgjiaaGreat

namespace Go.Proofs.YthklpkmdmkgjiaaGreat
open Go.ChangeShapes Go.WideShapes Go.ChangeAt Go.RowKit
set_option linter.unusedVariables false

set_option maxRecDepth 100000 in
set_option maxHeartbeats 4000000 in
theorem go_command {D : TypeId} {W M o : Nat}
    {Fints : FuncId} (nn_ints : ∀ (a : Addr) (w : World), (nilAhead 319 D (.pointer (some a)) "purse/wire.ints").run Tryz.prog w = .ok (some false) w) (mm_ints : ∀ (a : Addr) (w : World), (method 319 D (.pointer (some a)) "purse/wire.ints").run Tryz.prog w = .ok (Fints, .pointer (some a)) w) (cc_ints : ∀ (args : Array Value) (w : World), (callFunc Fints args).run Tryz.prog w = .ok (.enter Fints args) w)
    {Ftexts : FuncId} (nn_texts : ∀ (a : Addr) (w : World), (nilAhead 319 D (.pointer (some a)) "purse/wire.texts").run Tryz.prog w = .ok (some false) w) (mm_texts : ∀ (a : Addr) (w : World), (method 319 D (.pointer (some a)) "purse/wire.texts").run Tryz.prog w = .ok (Ftexts, .pointer (some a)) w) (cc_texts : ∀ (args : Array Value) (w : World), (callFunc Ftexts args).run Tryz.prog w = .ok (.enter Ftexts args) w)
    {Fflag : FuncId} (nn_flag : ∀ (a : Addr) (w : World), (nilAhead 319 D (.pointer (some a)) "purse/wire.flag").run Tryz.prog w = .ok (some false) w) (mm_flag : ∀ (a : Addr) (w : World), (method 319 D (.pointer (some a)) "purse/wire.flag").run Tryz.prog w = .ok (Fflag, .pointer (some a)) w) (cc_flag : ∀ (args : Array Value) (w : World), (callFunc Fflag args).run Tryz.prog w = .ok (.enter Fflag args) w)
    {Fbytes : FuncId} (nn_bytes : ∀ (a : Addr) (w : World), (nilAhead 319 D (.pointer (some a)) "purse/wire.bytes").run Tryz.prog w = .ok (some false) w) (mm_bytes : ∀ (a : Addr) (w : World), (method 319 D (.pointer (some a)) "purse/wire.bytes").run Tryz.prog w = .ok (Fbytes, .pointer (some a)) w) (cc_bytes : ∀ (args : Array Value) (w : World), (callFunc Fbytes args).run Tryz.prog w = .ok (.enter Fbytes args) w)
    {R0 R1 R2 R3 R4 R5 R6 R7 : World → Prop}
    (C0 : ∀ w, R0 w → Calls Tryz.prog Fints #[.pointer (some ⟨W, 0, none⟩), .slice (some ⟨w.heap.size, 0, none⟩) 6 6] (w.alloc (.cells #[.pointer (some ⟨M, o, none⟩), .pointer (some ⟨M, o + 1, none⟩), .pointer (some ⟨M, o + 2, none⟩), .pointer (some ⟨M, o + 3, none⟩), .pointer (some ⟨M, o + 4, none⟩), .pointer (some ⟨M, o + 5, none⟩)] 82)).drew fun e w' => e = .returned (.tuple #[]) ∧ R1 w')
    (C1 : ∀ w, R1 w → Calls Tryz.prog Ftexts #[.pointer (some ⟨W, 0, none⟩), .slice (some ⟨w.heap.size, 0, none⟩) 1 1] (w.alloc (.cells #[.pointer (some ⟨M, o + 6, none⟩)] 86)).drew fun e w' => e = .returned (.tuple #[]) ∧ R2 w')
    (C2 : ∀ w, R2 w → Calls Tryz.prog Fints #[.pointer (some ⟨W, 0, none⟩), .slice (some ⟨w.heap.size, 0, none⟩) 3 3] (w.alloc (.cells #[.pointer (some ⟨M, o + 7, none⟩), .pointer (some ⟨M, o + 8, none⟩), .pointer (some ⟨M, o + 9, none⟩)] 82)).drew fun e w' => e = .returned (.tuple #[]) ∧ R3 w')
    (C3 : ∀ w, R3 w → Calls Tryz.prog Fflag #[.pointer (some ⟨W, 0, none⟩), .pointer (some ⟨M, o + 10, none⟩)] w.drew fun e w' => e = .returned (.tuple #[]) ∧ R4 w')
    (C4 : ∀ w, R4 w → Calls Tryz.prog 64 #[.iface D (.pointer (some ⟨W, 0, none⟩)), .pointer (some ⟨M, o + 11, none⟩)] w fun e w' => e = .returned (.tuple #[]) ∧ R5 w')
    (C5 : ∀ w, R5 w → Calls Tryz.prog 42 #[.iface D (.pointer (some ⟨W, 0, none⟩)), .pointer (some ⟨M, o + 17, none⟩)] w fun e w' => e = .returned (.tuple #[]) ∧ R6 w')
    (C6 : ∀ w, R6 w → Calls Tryz.prog Fbytes #[.pointer (some ⟨W, 0, none⟩), .pointer (some ⟨M, o + 24, none⟩)] w.drew fun e w' => e = .returned (.tuple #[]) ∧ R7 w')
    (w : World) (h : R0 w) :
    Calls Tryz.prog 59 #[.iface D (.pointer (some ⟨W, 0, none⟩)), .pointer (some ⟨M, o, none⟩)] w fun e w' => e = .returned (.tuple #[]) ∧ R7 w' := by
  have D0 := hide C0
  have D1 := hide C1
  have D2 := hide C2
  have D3 := hide C3
  have D4 := hide C4
  have D5 := hide C5
  have D6 := hide C6
  have H0 := hide h
  clear h C0 C1 C2 C3 C4 C5 C6
  go_enter Tryz.func59, Tryz.ntmps59
  go_wp2_with fail
  go_cut [] (fun w2 => Hid (R1 w2))
  case first =>
    go_region_held3 (fun _ => True) (exact True.intro) ((refine (D0.out _ H0.out).mono ?_; rintro e w1 ⟨rfl, hw⟩))
    all_goals (have HW := hide hw; clear hw; go_wp2_with fail; go_meet; case rel => exact HW)
  case rest =>
    have H1 := hcut
    clear hcut H0
    go_wp2_with fail
    go_cut [] (fun w2 => Hid (R2 w2))
    case first =>
      go_region_held3 (fun _ => True) (exact True.intro) ((refine (D1.out _ H1.out).mono ?_; rintro e w1 ⟨rfl, hw⟩))
      all_goals (have HW := hide hw; clear hw; go_wp2_with fail; go_meet; case rel => exact HW)
    case rest =>
      have H2 := hcut
      clear hcut H1
      go_wp2_with fail
      go_cut [] (fun w2 => Hid (R3 w2))
      case first =>
        go_region_held3 (fun _ => True) (exact True.intro) ((refine (D2.out _ H2.out).mono ?_; rintro e w1 ⟨rfl, hw⟩))
        all_goals (have HW := hide hw; clear hw; go_wp2_with fail; go_meet; case rel => exact HW)
      case rest =>
        have H3 := hcut
        clear hcut H2
        go_wp2_with fail
        go_cut [] (fun w2 => Hid (R4 w2))
        case first =>
          go_region_held3 (fun _ => True) (exact True.intro) ((refine (D3.out _ H3.out).mono ?_; rintro e w1 ⟨rfl, hw⟩))
          all_goals (have HW := hide hw; clear hw; go_wp2_with fail; go_meet; case rel => exact HW)
        case rest =>
          have H4 := hcut
          clear hcut H3
          go_wp2_with fail
          refine (D4.out _ H4.out).mono ?_
          rintro e wc5 ⟨rfl, hw⟩
          have H5 := hide hw
          clear hw H4
          go_wp2_with fail
          refine (D5.out _ H5.out).mono ?_
          rintro e wc6 ⟨rfl, hw⟩
          have H6 := hide hw
          clear hw H5
          go_wp2_with fail
          go_region_held3 (fun _ => True) (exact True.intro) ((refine (D6.out _ H6.out).mono ?_; rintro e w1 ⟨rfl, hw⟩))
          all_goals (have HW := hide hw; clear hw; go_wp2_with fail; refine bodyPost_end (results_none rfl _ _ _) rfl ?_; exact ⟨rfl, HW.out⟩)
end Go.Proofs.YthklpkmdmkgjiaaGreat
