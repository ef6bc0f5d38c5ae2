/- The walk of the landed function state over a thing with lists, whoever the clerk is. No condition. -/
import Derived.Test.YthklpkmdmkgjiaaGreatJA
import Derived.Deep.RegionHeld3
import Derived.Deep.DeepCutAuto
namespace Go.Proofs.YthklpkmdmkgjiaaGreat
open Go.ChangeShapes Go.WideShapes Go.ChangeAt Go.RowKit
set_option linter.unusedVariables false

set_option maxRecDepth 100000 in
set_option maxHeartbeats 1000000 in
theorem go_state {D : TypeId} {W M o C : Nat}
    {Fints : FuncId} (nn_ints : ∀ (a : Addr) (w : World), (nilAhead 319 D (.pointer (some a)) "purse/wire.ints").run Tryz.prog w = .ok (some false) w) (mm_ints : ∀ (a : Addr) (w : World), (method 319 D (.pointer (some a)) "purse/wire.ints").run Tryz.prog w = .ok (Fints, .pointer (some a)) w) (cc_ints : ∀ (args : Array Value) (w : World), (callFunc Fints args).run Tryz.prog w = .ok (.enter Fints args) w)
    {Fflag : FuncId} (nn_flag : ∀ (a : Addr) (w : World), (nilAhead 319 D (.pointer (some a)) "purse/wire.flag").run Tryz.prog w = .ok (some false) w) (mm_flag : ∀ (a : Addr) (w : World), (method 319 D (.pointer (some a)) "purse/wire.flag").run Tryz.prog w = .ok (Fflag, .pointer (some a)) w) (cc_flag : ∀ (args : Array Value) (w : World), (callFunc Fflag args).run Tryz.prog w = .ok (.enter Fflag args) w)
    {Ftexts : FuncId} (nn_texts : ∀ (a : Addr) (w : World), (nilAhead 319 D (.pointer (some a)) "purse/wire.texts").run Tryz.prog w = .ok (some false) w) (mm_texts : ∀ (a : Addr) (w : World), (method 319 D (.pointer (some a)) "purse/wire.texts").run Tryz.prog w = .ok (Ftexts, .pointer (some a)) w) (cc_texts : ∀ (args : Array Value) (w : World), (callFunc Ftexts args).run Tryz.prog w = .ok (.enter Ftexts args) w)
    {Fbytes : FuncId} (nn_bytes : ∀ (a : Addr) (w : World), (nilAhead 319 D (.pointer (some a)) "purse/wire.bytes").run Tryz.prog w = .ok (some false) w) (mm_bytes : ∀ (a : Addr) (w : World), (method 319 D (.pointer (some a)) "purse/wire.bytes").run Tryz.prog w = .ok (Fbytes, .pointer (some a)) w) (cc_bytes : ∀ (args : Array Value) (w : World), (callFunc Fbytes args).run Tryz.prog w = .ok (.enter Fbytes args) w)
    {R0 R1 R2 R3 R4 R5 R6 R7 R8 R9 R10 R11 R12 R13 : World → Prop}
    (K : ∀ w, (R0 w ∨ R1 w ∨ R2 w ∨ R3 w ∨ R4 w ∨ R5 w ∨ R6 w ∨ R7 w ∨ R8 w ∨ R9 w ∨ R10 w ∨ R11 w ∨ R12 w ∨ R13 w) → w.cell? ⟨C, 0, none⟩ = some (.iface D (.pointer (some ⟨W, 0, none⟩))))
    (C0 : ∀ w, R0 w → Calls Tryz.prog Fints #[.pointer (some ⟨W, 0, none⟩), .slice (some ⟨w.heap.size, 0, none⟩) 2 2] (w.alloc (.cells #[.pointer (some ⟨M, o, none⟩), .pointer (some ⟨M, o + 1, none⟩)] 82)).drew fun e w' => e = .returned (.tuple #[]) ∧ R1 w')
    (C1 : ∀ w, R1 w → Calls Tryz.prog Fflag #[.pointer (some ⟨W, 0, none⟩), .pointer (some ⟨M, o + 2, none⟩)] w.drew fun e w' => e = .returned (.tuple #[]) ∧ R2 w')
    (C2 : ∀ w, R2 w → Calls Tryz.prog Ftexts #[.pointer (some ⟨W, 0, none⟩), .slice (some ⟨w.heap.size, 0, none⟩) 2 2] (w.alloc (.cells #[.pointer (some ⟨M, o + 3, none⟩), .pointer (some ⟨M, o + 4, none⟩)] 86)).drew fun e w' => e = .returned (.tuple #[]) ∧ R3 w')
    (C3 : ∀ w, R3 w → Calls Tryz.prog Fints #[.pointer (some ⟨W, 0, none⟩), .slice (some ⟨w.heap.size, 0, none⟩) 1 1] (w.alloc (.cells #[.pointer (some ⟨M, o + 5, none⟩)] 82)).drew fun e w' => e = .returned (.tuple #[]) ∧ R4 w')
    (C4 : ∀ w, R4 w → Calls Tryz.prog 28 #[.iface D (.pointer (some ⟨W, 0, none⟩)), .pointer (some ⟨M, o + 6, none⟩), .func (.func 29) #[] #[.pointer (some ⟨C, 0, none⟩)]] w.drew fun e w' => e = .returned (.tuple #[]) ∧ R5 w')
    (C5 : ∀ w, R5 w → Calls Tryz.prog 31 #[.iface D (.pointer (some ⟨W, 0, none⟩)), .pointer (some ⟨M, o + 7, none⟩), .func (.func 32) #[] #[.pointer (some ⟨C, 0, none⟩)]] w.drew fun e w' => e = .returned (.tuple #[]) ∧ R6 w')
    (C6 : ∀ w, R6 w → Calls Tryz.prog 34 #[.iface D (.pointer (some ⟨W, 0, none⟩)), .pointer (some ⟨M, o + 8, none⟩), .func (.func 35) #[] #[.pointer (some ⟨C, 0, none⟩)]] w.drew fun e w' => e = .returned (.tuple #[]) ∧ R7 w')
    (C7 : ∀ w, R7 w → Calls Tryz.prog 37 #[.iface D (.pointer (some ⟨W, 0, none⟩)), .pointer (some ⟨M, o + 9, none⟩), .func (.func 38) #[] #[.pointer (some ⟨C, 0, none⟩)]] w.drew fun e w' => e = .returned (.tuple #[]) ∧ R8 w')
    (C8 : ∀ w, R8 w → Calls Tryz.prog 40 #[.iface D (.pointer (some ⟨W, 0, none⟩)), .pointer (some ⟨M, o + 10, none⟩), .func (.func 41) #[] #[.pointer (some ⟨C, 0, none⟩)]] w.drew fun e w' => e = .returned (.tuple #[]) ∧ R9 w')
    (C9 : ∀ w, R9 w → Calls Tryz.prog 42 #[.iface D (.pointer (some ⟨W, 0, none⟩)), .pointer (some ⟨M, o + 11, none⟩)] w.drew fun e w' => e = .returned (.tuple #[]) ∧ R10 w')
    (C10 : ∀ w, R10 w → Calls Tryz.prog 42 #[.iface D (.pointer (some ⟨W, 0, none⟩)), .pointer (some ⟨M, o + 18, none⟩)] w.drew fun e w' => e = .returned (.tuple #[]) ∧ R11 w')
    (C11 : ∀ w, R11 w → Calls Tryz.prog Fbytes #[.pointer (some ⟨W, 0, none⟩), .pointer (some ⟨M, o + 25, none⟩)] w.drew fun e w' => e = .returned (.tuple #[]) ∧ R12 w')
    (C12 : ∀ w, R12 w → Calls Tryz.prog Fints #[.pointer (some ⟨W, 0, none⟩), .slice (some ⟨w.heap.size, 0, none⟩) 3 3] (w.alloc (.cells #[.pointer (some ⟨M, o + 26, none⟩), .pointer (some ⟨M, o + 27, none⟩), .pointer (some ⟨M, o + 28, none⟩)] 82)).drew fun e w' => e = .returned (.tuple #[]) ∧ R13 w')
    (w : World) (hC : C = w.heap.size) (h : R0 (w.alloc (.cells #[.iface D (.pointer (some ⟨W, 0, none⟩))] 80))) :
    Calls Tryz.prog 13 #[.iface D (.pointer (some ⟨W, 0, none⟩)), .pointer (some ⟨M, o, none⟩)] w fun e w' => e = .returned (.tuple #[]) ∧ R13 w' := by
  have D0 := hide C0
  have D1 := hide C1
  have D2 := hide C2
  have D3 := hide C3
  have D4 := hide C4
  have D5 := hide C5
  have D6 := hide C6
  have D7 := hide C7
  have D8 := hide C8
  have D9 := hide C9
  have D10 := hide C10
  have D11 := hide C11
  have D12 := hide C12
  have KK := hide K
  obtain ⟨w0, e0⟩ : ∃ w0, w0 = w.alloc (.cells #[.iface D (.pointer (some ⟨W, 0, none⟩))] 80) := ⟨_, rfl⟩
  rw [← e0] at h
  have E0 := hide e0.symm
  have H0 := hide h
  have HC := hide hC.symm
  clear h K e0 hC C0 C1 C2 C3 C4 C5 C6 C7 C8 C9 C10 C11 C12
  go_enter Tryz.func13, Tryz.ntmps13
  go_upto_region 1 with fail
  rw [E0.out, HC.out]
  clear E0 HC
  have c0 := KK.out _ (.inl H0.out)
  go_cut [] (fun w2 => Hid (R1 w2))
  case first =>
    go_region_held3 (fun u => u.cell? ⟨C, 0, none⟩ = some (.iface D (.pointer (some ⟨W, 0, none⟩)))) (first | go_keep | exact KK.out _ (.inr (.inl hw))) ((refine (D0.out _ H0.out).mono ?_; rintro e w1 ⟨rfl, hw⟩))
    all_goals (have HW := hide hw; clear hw; go_wp2_with fail; go_meet; case rel => exact HW)
  case rest =>
    have H1 := hcut
    clear hcut H0 c0
    go_wp2_with fail
    have c1 := KK.out _ (.inr (.inl H1.out))
    go_cut [] (fun w2 => Hid (R2 w2))
    case first =>
      go_region_held3 (fun u => u.cell? ⟨C, 0, none⟩ = some (.iface D (.pointer (some ⟨W, 0, none⟩)))) (first | go_keep | exact KK.out _ (.inr (.inr (.inl hw)))) ((refine (D1.out _ H1.out).mono ?_; rintro e w1 ⟨rfl, hw⟩))
      all_goals (have HW := hide hw; clear hw; go_wp2_with fail; go_meet; case rel => exact HW)
    case rest =>
      have H2 := hcut
      clear hcut H1 c1
      go_wp2_with fail
      have c2 := KK.out _ (.inr (.inr (.inl H2.out)))
      go_cut [] (fun w2 => Hid (R3 w2))
      case first =>
        go_region_held3 (fun u => u.cell? ⟨C, 0, none⟩ = some (.iface D (.pointer (some ⟨W, 0, none⟩)))) (first | go_keep | exact KK.out _ (.inr (.inr (.inr (.inl hw))))) ((refine (D2.out _ H2.out).mono ?_; rintro e w1 ⟨rfl, hw⟩))
        all_goals (have HW := hide hw; clear hw; go_wp2_with fail; go_meet; case rel => exact HW)
      case rest =>
        have H3 := hcut
        clear hcut H2 c2
        go_wp2_with fail
        have c3 := KK.out _ (.inr (.inr (.inr (.inl H3.out))))
        go_cut [] (fun w2 => Hid (R4 w2))
        case first =>
          go_region_held3 (fun u => u.cell? ⟨C, 0, none⟩ = some (.iface D (.pointer (some ⟨W, 0, none⟩)))) (first | go_keep | exact KK.out _ (.inr (.inr (.inr (.inr (.inl hw)))))) ((refine (D3.out _ H3.out).mono ?_; rintro e w1 ⟨rfl, hw⟩))
          all_goals (have HW := hide hw; clear hw; go_wp2_with fail; go_meet; case rel => exact HW)
        case rest =>
          have H4 := hcut
          clear hcut H3 c3
          go_wp2_with fail
          have c4 := KK.out _ (.inr (.inr (.inr (.inr (.inl H4.out)))))
          go_cut [] (fun w2 => Hid (R5 w2))
          case first =>
            go_region_held3 (fun u => u.cell? ⟨C, 0, none⟩ = some (.iface D (.pointer (some ⟨W, 0, none⟩)))) (first | go_keep | exact KK.out _ (.inr (.inr (.inr (.inr (.inr (.inl hw))))))) ((go_at_call 28; refine (D4.out _ H4.out).mono ?_; rintro e w1 ⟨rfl, hw⟩))
            all_goals (have HW := hide hw; clear hw; go_wp2_with fail; go_meet; case rel => exact HW)
          case rest =>
            have H5 := hcut
            clear hcut H4 c4
            go_wp2_with fail
            have c5 := KK.out _ (.inr (.inr (.inr (.inr (.inr (.inl H5.out))))))
            go_cut [] (fun w2 => Hid (R6 w2))
            case first =>
              go_region_held3 (fun u => u.cell? ⟨C, 0, none⟩ = some (.iface D (.pointer (some ⟨W, 0, none⟩)))) (first | go_keep | exact KK.out _ (.inr (.inr (.inr (.inr (.inr (.inr (.inl hw)))))))) ((go_at_call 31; refine (D5.out _ H5.out).mono ?_; rintro e w1 ⟨rfl, hw⟩))
              all_goals (have HW := hide hw; clear hw; go_wp2_with fail; go_meet; case rel => exact HW)
            case rest =>
              have H6 := hcut
              clear hcut H5 c5
              go_wp2_with fail
              have c6 := KK.out _ (.inr (.inr (.inr (.inr (.inr (.inr (.inl H6.out)))))))
              go_cut [] (fun w2 => Hid (R7 w2))
              case first =>
                go_region_held3 (fun u => u.cell? ⟨C, 0, none⟩ = some (.iface D (.pointer (some ⟨W, 0, none⟩)))) (first | go_keep | exact KK.out _ (.inr (.inr (.inr (.inr (.inr (.inr (.inr (.inl hw))))))))) ((go_at_call 34; refine (D6.out _ H6.out).mono ?_; rintro e w1 ⟨rfl, hw⟩))
                all_goals (have HW := hide hw; clear hw; go_wp2_with fail; go_meet; case rel => exact HW)
              case rest =>
                have H7 := hcut
                clear hcut H6 c6
                go_wp2_with fail
                have c7 := KK.out _ (.inr (.inr (.inr (.inr (.inr (.inr (.inr (.inl H7.out))))))))
                go_cut [] (fun w2 => Hid (R8 w2))
                case first =>
                  go_region_held3 (fun u => u.cell? ⟨C, 0, none⟩ = some (.iface D (.pointer (some ⟨W, 0, none⟩)))) (first | go_keep | exact KK.out _ (.inr (.inr (.inr (.inr (.inr (.inr (.inr (.inr (.inl hw)))))))))) ((go_at_call 37; refine (D7.out _ H7.out).mono ?_; rintro e w1 ⟨rfl, hw⟩))
                  all_goals (have HW := hide hw; clear hw; go_wp2_with fail; go_meet; case rel => exact HW)
                case rest =>
                  have H8 := hcut
                  clear hcut H7 c7
                  go_wp2_with fail
                  have c8 := KK.out _ (.inr (.inr (.inr (.inr (.inr (.inr (.inr (.inr (.inl H8.out)))))))))
                  go_cut [] (fun w2 => Hid (R9 w2))
                  case first =>
                    go_region_held3 (fun u => u.cell? ⟨C, 0, none⟩ = some (.iface D (.pointer (some ⟨W, 0, none⟩)))) (first | go_keep | exact KK.out _ (.inr (.inr (.inr (.inr (.inr (.inr (.inr (.inr (.inr (.inl hw))))))))))) ((go_at_call 40; refine (D8.out _ H8.out).mono ?_; rintro e w1 ⟨rfl, hw⟩))
                    all_goals (have HW := hide hw; clear hw; go_wp2_with fail; go_meet; case rel => exact HW)
                  case rest =>
                    have H9 := hcut
                    clear hcut H8 c8
                    go_wp2_with fail
                    have c9 := KK.out _ (.inr (.inr (.inr (.inr (.inr (.inr (.inr (.inr (.inr (.inl H9.out))))))))))
                    go_cut [] (fun w2 => Hid (R10 w2))
                    case first =>
                      go_region_held3 (fun u => u.cell? ⟨C, 0, none⟩ = some (.iface D (.pointer (some ⟨W, 0, none⟩)))) (first | go_keep | exact KK.out _ (.inr (.inr (.inr (.inr (.inr (.inr (.inr (.inr (.inr (.inr (.inl hw)))))))))))) ((go_at_call 42; refine (D9.out _ H9.out).mono ?_; rintro e w1 ⟨rfl, hw⟩))
                      all_goals (have HW := hide hw; clear hw; go_wp2_with fail; go_meet; case rel => exact HW)
                    case rest =>
                      have H10 := hcut
                      clear hcut H9 c9
                      go_wp2_with fail
                      have c10 := KK.out _ (.inr (.inr (.inr (.inr (.inr (.inr (.inr (.inr (.inr (.inr (.inl H10.out)))))))))))
                      go_cut [] (fun w2 => Hid (R11 w2))
                      case first =>
                        go_region_held3 (fun u => u.cell? ⟨C, 0, none⟩ = some (.iface D (.pointer (some ⟨W, 0, none⟩)))) (first | go_keep | exact KK.out _ (.inr (.inr (.inr (.inr (.inr (.inr (.inr (.inr (.inr (.inr (.inr (.inl hw))))))))))))) ((go_at_call 42; refine (D10.out _ H10.out).mono ?_; rintro e w1 ⟨rfl, hw⟩))
                        all_goals (have HW := hide hw; clear hw; go_wp2_with fail; go_meet; case rel => exact HW)
                      case rest =>
                        have H11 := hcut
                        clear hcut H10 c10
                        go_wp2_with fail
                        have c11 := KK.out _ (.inr (.inr (.inr (.inr (.inr (.inr (.inr (.inr (.inr (.inr (.inr (.inl H11.out))))))))))))
                        go_cut [] (fun w2 => Hid (R12 w2))
                        case first =>
                          go_region_held3 (fun u => u.cell? ⟨C, 0, none⟩ = some (.iface D (.pointer (some ⟨W, 0, none⟩)))) (first | go_keep | exact KK.out _ (.inr (.inr (.inr (.inr (.inr (.inr (.inr (.inr (.inr (.inr (.inr (.inr (.inl hw)))))))))))))) ((refine (D11.out _ H11.out).mono ?_; rintro e w1 ⟨rfl, hw⟩))
                          all_goals (have HW := hide hw; clear hw; go_wp2_with fail; go_meet; case rel => exact HW)
                        case rest =>
                          have H12 := hcut
                          clear hcut H11 c11
                          go_wp2_with fail
                          have c12 := KK.out _ (.inr (.inr (.inr (.inr (.inr (.inr (.inr (.inr (.inr (.inr (.inr (.inr (.inl H12.out)))))))))))))
                          go_region_held3 (fun u => u.cell? ⟨C, 0, none⟩ = some (.iface D (.pointer (some ⟨W, 0, none⟩)))) (first | go_keep | exact KK.out _ (.inr (.inr (.inr (.inr (.inr (.inr (.inr (.inr (.inr (.inr (.inr (.inr (.inr hw)))))))))))))) ((refine (D12.out _ H12.out).mono ?_; rintro e w1 ⟨rfl, hw⟩))
                          all_goals (have HW := hide hw; clear hw; go_wp2_with fail; refine bodyPost_end (results_none rfl _ _ _) rfl ?_; exact ⟨rfl, HW.out⟩)
end Go.Proofs.YthklpkmdmkgjiaaGreat
